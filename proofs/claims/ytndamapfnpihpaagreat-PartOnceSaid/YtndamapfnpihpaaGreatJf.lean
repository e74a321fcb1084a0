/- The layers told, part 6. Conditions: none beyond each law's own. -/
import Derived.Test.YtndamapfnpihpaaGreatJe
namespace Go.Proofs.YtndamapfnpihpaaGreat
set_option maxHeartbeats 4000000
set_option maxRecDepth 100000
set_option linter.unusedVariables false
set_option linter.unusedSimpArgs false
set_option linter.unusedSectionVars false
open Int renaming toNat->E0
open List renaming drop->r7,flatMap->q0,length->q5,length_drop->m7,length_set->J1,map->r8,mem_flatMap->M5,mem_of_getElem?->C1,set->J0,toArray->u3
open Ll renaming mk->D4
open _root_.Go.Proofs.Tryz renaming isAgg32->C4,isAgg90->Q9
section
open Go.RowKit
def fQ (k:bJ) (a:ax) (d:StoreT):Nat->List dM->List di->List dD->List bG->List aK->((List dM) × (List di) × (List dD) × (List bG) × (List aK)) ⊕ (Int × bJ × ax × aZ)
  | 0,l,f,h,i,m=>Sum.inl default
  | o+1,l,f,h,i,m=>if(f.length:Int) > 0 then bnd (List.getD f 0 default) λ g=>if g.dC=true then bnd (j5 (bJ.mk (dH.mk (D4 l) (D4 k.av.aI.ls) k.av.bU) (D4 (r7 1 f))) g.au (ax.mk (bA.mk a.aa.bC a.aa.aT a.aa.bv a.aa.aL a.aa.aG (D4 a.aa.ah.ls) (D4 h) (D4 a.aa.af.ls) a.aa.bi a.aa.aM a.aa.aH a.aa.aF) (D4 i))) λ n=>fQ k a d o n.1.av.bE.ls (r7 1 f) h n.2.ag.ls m else bnd (dh (ax.mk (bA.mk a.aa.bC a.aa.aT a.aa.bv a.aa.aL a.aa.aG (D4 a.aa.ah.ls) (D4 h) (D4 a.aa.af.ls) a.aa.bi a.aa.aM a.aa.aH a.aa.aF) (D4 i)) g.au) λ j=>if j.2=true then bnd (List.getD i (E0 j.1) default) λ e=>bnd (gX (bJ.mk (dH.mk (D4 l) (D4 k.av.aI.ls) k.av.bU) (D4 (r7 1 f))) g.au (ax.mk (bA.mk a.aa.bC a.aa.aT a.aa.bv a.aa.aL a.aa.aG (D4 a.aa.ah.ls) (D4 h) (D4 a.aa.af.ls) a.aa.bi a.aa.aM a.aa.aH a.aa.aF) (D4 (J0 i (E0 j.1) (bG.mk e.au (D4 e.cK.ls) (D4 e.bK.ls) (e.aU+1))))) d (aZ.mk (D4 m))) λ b=>if b.1=0 then fQ k a d o b.2.1.av.bE.ls b.2.1.bD.ls b.2.2.1.aa.ak.ls b.2.2.1.ag.ls b.2.2.2.ai.ls else Sum.inr (b.1,bJ.mk (dH.mk (D4 b.2.1.av.bE.ls) (D4 k.av.aI.ls) k.av.bU) (D4 b.2.1.bD.ls),ax.mk (bA.mk a.aa.bC a.aa.aT a.aa.bv a.aa.aL a.aa.aG (D4 a.aa.ah.ls) (D4 b.2.2.1.aa.ak.ls) (D4 a.aa.af.ls) a.aa.bi a.aa.aM a.aa.aH a.aa.aF) (D4 b.2.2.1.ag.ls),b.2.2.2) else bnd (gX (bJ.mk (dH.mk (D4 l) (D4 k.av.aI.ls) k.av.bU) (D4 (r7 1 f))) g.au (ax.mk (bA.mk a.aa.bC a.aa.aT a.aa.bv a.aa.aL a.aa.aG (D4 a.aa.ah.ls) (D4 h) (D4 a.aa.af.ls) a.aa.bi a.aa.aM a.aa.aH a.aa.aF) (D4 i)) d (aZ.mk (D4 m))) λ c=>if c.1=0 then fQ k a d o c.2.1.av.bE.ls c.2.1.bD.ls c.2.2.1.aa.ak.ls c.2.2.1.ag.ls c.2.2.2.ai.ls else Sum.inr (c.1,bJ.mk (dH.mk (D4 c.2.1.av.bE.ls) (D4 k.av.aI.ls) k.av.bU) (D4 c.2.1.bD.ls),ax.mk (bA.mk a.aa.bC a.aa.aT a.aa.bv a.aa.aL a.aa.aG (D4 a.aa.ah.ls) (D4 c.2.2.1.aa.ak.ls) (D4 a.aa.af.ls) a.aa.bi a.aa.aM a.aa.aH a.aa.aF) (D4 c.2.2.1.ag.ls),c.2.2.2) else Sum.inl (l,f,h,i,m)
def fE (d:bJ) (a:ax) (c:StoreT) (b:aZ):Int × bJ × ax × aZ:=
 lp (fQ d a c ((jQ d.bD.ls a.ag.ls b.ai.ls)+1) d.av.bE.ls d.bD.ls a.aa.ak.ls a.ag.ls b.ai.ls) λ sLrL=>(0,bJ.mk (dH.mk (D4 sLrL.1) (D4 d.av.aI.ls) d.av.bU) (D4 sLrL.2.1),ax.mk (bA.mk a.aa.bC a.aa.aT a.aa.bv a.aa.aL a.aa.aG (D4 a.aa.ah.ls) (D4 sLrL.2.2.1) (D4 a.aa.af.ls) a.aa.bi a.aa.aM a.aa.aH a.aa.aF) (D4 sLrL.2.2.2.1),aZ.mk (D4 sLrL.2.2.2.2))
theorem nk (w D g0) (A:bJ) (dE dK dz O J dL dO x) (a:ax) (B C aT aU aG E F aV aX aH j) (d:StoreT) (s r l) (t:aZ) (ak au S r0) (r1:bJ) (r2:ax) (r3:aZ) (H:Own w D w [blk g0 [.pointer (some ⟨x,0,none⟩), .slice dE A.av.bE.ls.length dK, .slice O A.av.aI.ls.length J, .bool A.av.bU, .slice dL A.bD.ls.length dO] 92,row dE A.av.bE.ls.length dK (q0 bV.cells dz) 47 21,sepL (q0 Hl dz),je dL A.bD.ls.length dO (q0 di.cells A.bD.ls) 216 2,blk x [.int .i64 a.aa.bC, .int .u64 ((a.aa.aT:Nat):Int), .int .u64 ((a.aa.bv:Nat):Int), .int .u64 ((a.aa.aL:Nat):Int), .int .u64 ((a.aa.aG:Nat):Int), .slice B a.aa.ah.ls.length C, .slice aT a.aa.ak.ls.length aU, .slice E a.aa.af.ls.length F, .int .u64 ((a.aa.bi:Nat):Int), .int .u64 ((a.aa.aM:Nat):Int), .string ⟨u3 a.aa.aH.aO⟩, .string ⟨u3 a.aa.aH.aS⟩, .int .u64 ((a.aa.aF.aG:Nat):Int), .int .u64 ((a.aa.aF.bu:Nat):Int), .int .u64 ((a.aa.aF.dA:Nat):Int), .string ⟨u3 a.aa.aF.aB.aO⟩, .string ⟨u3 a.aa.aF.aB.aS⟩, .iface 24 (.pointer (some ⟨j,0,none⟩)), .slice aV a.ag.ls.length aX, .pointer (some ⟨l,0,none⟩), .pointer none] 80,row aT a.aa.ak.ls.length aU (q0 bg.cells aG) 60 2,sepL (q0 He aG),row aV a.ag.ls.length aX (q0 aR.cells aH) 99 4,sepL (q0 G5 aH),blk j [.slice s d.xM.ls.length r] 27,blk l [.slice ak t.ai.ls.length au] 114,row ak t.ai.ls.length au (q0 ay.cells S) 164 6,sepL (q0 GU S)]) (dP:r8 bV.abs dz=A.av.bE.ls) (dQ:Ro w D λ w'=>bM w' 6 O A.av.aI.ls.length (q0 aY.cells A.av.aI.ls)) (jE:A.av.aI.ls.length<=J/\A.av.aI.ls.length<=9223372036854775807) (bv:r8 bg.abs aG=a.aa.ak.ls) (bB:r8 aR.abs aH=a.ag.ls) (aI:Ro w D λ w'=>bM w' 2 s d.xM.ls.length (q0 aA.cells d.xM.ls)) (ik:d.xM.ls.length<=r/\d.xM.ls.length<=9223372036854775807) (aJ:r8 ay.abs S=t.ai.ls) (lW:Tk a.ag.ls a.aa.ak.ls t.ai.ls) (lX:Gt a.ag.ls) (lY:Li A.bD.ls t.ai.ls) (lZ:a.ag.ls.length+a.aa.ak.ls.length<=6) (l6:t.ai.ls.length<=6) (l7:A.av.bE.ls.length+jQ A.bD.ls a.ag.ls t.ai.ls<=80000/\A.av.aI.ls.length<=1000/\d.xM.ls.length<=4000) (hr:fE A a d t=(r0,r1,r2,r3)):
    Calls Tryz.prog 84 #[vP g0 0] w (dG λ v w'=> ∃ dR dS bU dU dV dW dX bX dZ ed bZ ek eB cu,v=vI r0/\Own w D w' [blk g0 [vP x 0, .slice dR r1.av.bE.ls.length dS, .slice O A.av.aI.ls.length J, .bool A.av.bU, .slice dU r1.bD.ls.length dV] 92,row dR r1.av.bE.ls.length dS (q0 bV.cells bU) 47 21,sepL (q0 Hl bU),je dU r1.bD.ls.length dV (q0 di.cells r1.bD.ls) 216 2,blk x [vI a.aa.bC,vU a.aa.aT,vU a.aa.bv,vU a.aa.aL,vU a.aa.aG, .slice B a.aa.ah.ls.length C, .slice dW r2.aa.ak.ls.length dX, .slice E a.aa.af.ls.length F,vU a.aa.bi,vU a.aa.aM, .string ⟨u3 a.aa.aH.aO⟩, .string ⟨u3 a.aa.aH.aS⟩,vU a.aa.aF.aG,vU a.aa.aF.bu,vU a.aa.aF.dA, .string ⟨u3 a.aa.aF.aB.aO⟩, .string ⟨u3 a.aa.aF.aB.aS⟩, .iface 24 (vP j 0), .slice dZ r2.ag.ls.length ed,vP l 0, .pointer none] 80,row dW r2.aa.ak.ls.length dX (q0 bg.cells bX) 60 2,sepL (q0 He bX),row dZ r2.ag.ls.length ed (q0 aR.cells bZ) 99 4,sepL (q0 G5 bZ),blk j [.slice s d.xM.ls.length r] 27,blk l [.slice ek r3.ai.ls.length eB] 114,row ek r3.ai.ls.length eB (q0 ay.cells cu) 164 6,sepL (q0 GU cu)]/\(r8 bV.abs bU=r1.av.bE.ls)/\(r8 bg.abs bX=r2.aa.ak.ls)/\(r8 aR.abs bZ=r2.ag.ls)/\(r8 ay.abs cu=r3.ai.ls)):=by
 have jB:=aW dP
 have iJ:=aW bv
 have iK:=aW bB
 have fM:=aW aJ
 have jG:=zr 1 H
 have jH:=H.rowCQ (i:=3) rfl
 have iL:=zr 5 H
 have iM:=zr 7 H
 refine cb Tryz.func84 ?_
 refine sr (An rfl (Gp (bo ?_)))
 have jI:=H.pf [0,4,9,10]
 obtain⟨jJ,bC⟩:=FX λ W (X:Nat) T I av (Y:Nat) g P (Q:Nat) U z G (N:Nat) L h Z (aa:Nat) V u (eD:Nat) w'=>Own w D w' [blk g0 [vP x 0, .slice W I.length X, .slice O A.av.aI.ls.length J, .bool A.av.bU, .slice av g.length Y] 92,blk x [vI a.aa.bC,vU a.aa.aT,vU a.aa.bv,vU a.aa.aL,vU a.aa.aG, .slice B a.aa.ah.ls.length C, .slice P z.length Q, .slice E a.aa.af.ls.length F,vU a.aa.bi,vU a.aa.aM, .string ⟨u3 a.aa.aH.aO⟩, .string ⟨u3 a.aa.aH.aS⟩,vU a.aa.aF.aG,vU a.aa.aF.bu,vU a.aa.aF.dA, .string ⟨u3 a.aa.aF.aB.aO⟩, .string ⟨u3 a.aa.aF.aB.aS⟩, .iface 24 (vP j 0), .slice G h.length N,vP l 0, .pointer none] 80,blk j [.slice s d.xM.ls.length r] 27,blk l [.slice Z u.length aa] 114,row W I.length X (q0 bV.cells T) 47 21,sepL (q0 Hl T),je av g.length Y (q0 di.cells g) 216 2,row P z.length Q (q0 bg.cells U) 60 2,sepL (q0 He U),row G h.length N (q0 aR.cells L) 99 4,sepL (q0 G5 L),row Z u.length aa (q0 ay.cells V) 164 6,sepL (q0 GU V)]/\r8 bV.abs T=I/\r8 bg.abs U=z/\r8 aR.abs L=h/\r8 ay.abs V=u/\Gt h/\Tk h z u/\Li g u/\I.length+jQ g h u<=80000/\jQ g h u < eD/\fQ A a d ((jQ A.bD.ls a.ag.ls t.ai.ls)+1) A.av.bE.ls A.bD.ls a.aa.ak.ls a.ag.ls t.ai.ls=fQ A a d eD I g z h u
 refine Wp.loop (λ i:(Option Addr) × Nat × (List bV) × (List dM) × (Option Addr) × Nat × (List di) × (Option Addr) × Nat × (List bg) × (List dD) × (Option Addr) × Nat × (List aR) × (List bG) × (Option Addr) × Nat × (List ay) × (List aK) × Nat=> [(2,vI 0),(0,vP g0 0)]) jJ (λ i=>i.2.2.2.2.2.2.2.2.2.2.2.2.2.2.2.2.2.2.2) (dE,dK,dz,A.av.bE.ls,dL,dO,A.bD.ls,aT,aU,aG,a.aa.ak.ls,aV,aX,aH,a.ag.ls,ak,au,S,t.ai.ls,(jQ A.bD.ls a.ag.ls t.ai.ls)+1) ⟨rfl,rfl,trivial⟩ (bC.2 ⟨jI,by exact dP,by exact bv,by exact bB,by exact aJ,f6,f6,f6,e8,e8,rfl⟩) ?_
 rintro ⟨W,X,T,I,av,Y,g,P,Q,U,z,G,N,L,h,Z,aa,V,u,eD⟩ l8 iO
 show Wp _ _ _ [(2,vI 0),(0,vP g0 0)] _ _
 obtain⟨cz,bD,bE,aB,bF,kX,kY,lc,lg,lh,aM⟩:=bC.1 iO
 have ll:=aW bD
 have lm:=aW bE
 have lq:=aW aB
 have lu:=aW bF
 obtain⟨bf,iP⟩:∃ q,eD=q+1:=⟨eD - 1,e8⟩
 subst iP
 refine Gp (sr (Mz rfl (Kz (vP g0 0) (Kz (vP g0 4) (Lz (.slice av g.length Y) cz 0 Q9 (Kz (vJ g.length) (Kz (.bool (decide ((g.length:Int) > 0))) (nt ?_))))))))
 by_cases bI:(g.length:Int) > 0
 refine jT (dT bI) (sk (bo (sr (Mz rfl (Kz (vP g0 0) (Kz (vP g0 4) (Lz (.slice av g.length Y) cz 0 Q9 ?_)))))))
 obtain⟨K,ah⟩:=dI (ls:=g) (i:=0) di.len f5 (cz.rdsQ (i:=6) rfl) f2
 have lv:u.length<=6:=Tk.rows (ws:=h) (hs:=z) f6
 have lw:h.length+z.length<=6:=Tk.n (rs:=u) f6
 have lD:g.length<=jQ g h u:=Nat.le_add_left _ _
 refine fw (.pointer (some ⟨ab av,ao av+0 *2,none⟩)) (GI (Ce) rfl rfl ((cz.rdsQ (i:=6) rfl).addr (i:=0) e8) e8) (fw (.agg (di.cells K).toArray) (GH rfl (GJ (cs:=(di.cells K)) Tryz.isAgg216 Tryz.sizeOf216 ((cz.rdsQ (i:=6) rfl).elem di.len ah f5))) ?_)
 refine bW [.int .u64 0, .bool false] 216 cz ?_
 intro bi l9 jK
 refine bY (di.cells K) 0 jK Tryz.sizeOf216 ?_
 intro ma iQ
 refine ns (Mz rfl (Mz rfl (Kz (vP g0 0) (Kz (vP g0 4) (Lz (.slice av g.length Y) iQ 1 Q9 (fw (.slice (eu av 1 2 Y) (g.length - 1) (Y - 1)) (G6 (Ce) rfl rfl e8) (Kz (vP g0 0) (Kz (vP g0 4) ?_))))))))
 have jL:=iQ.pf [1]
 refine bY [.slice (eu av 1 2 Y) (g.length - 1) (Y - 1)] 4 jL Tryz.sizeOf90 ?_
 intro iT jM
 have jN:=jM.pf [7]
 have iU:q5 (r7 1 g)=g.length - 1:=m7
 have jO:Own w D iT [je (eu av 1 2 Y) (g.length - 1) (Y - 1) (q0 di.cells (r7 1 g)) 216 2,blk g0 [vP x 0, .slice W I.length X, .slice O A.av.aI.ls.length J, .bool A.av.bU, .slice (eu av 1 2 Y) (g.length - 1) (Y - 1)] 92,blk bi (di.cells K) 216,blk x [vI a.aa.bC,vU a.aa.aT,vU a.aa.bv,vU a.aa.aL,vU a.aa.aG, .slice B a.aa.ah.ls.length C, .slice P z.length Q, .slice E a.aa.af.ls.length F,vU a.aa.bi,vU a.aa.aM, .string ⟨u3 a.aa.aH.aO⟩, .string ⟨u3 a.aa.aH.aS⟩,vU a.aa.aF.aG,vU a.aa.aF.bu,vU a.aa.aF.dA, .string ⟨u3 a.aa.aF.aB.aO⟩, .string ⟨u3 a.aa.aF.aB.aS⟩, .iface 24 (vP j 0), .slice G h.length N,vP l 0, .pointer none] 80,blk j [.slice s d.xM.ls.length r] 27,blk l [.slice Z u.length aa] 114,row W I.length X (q0 bV.cells T) 47 21,sepL (q0 Hl T),row P z.length Q (q0 bg.cells U) 60 2,sepL (q0 He U),row G h.length N (q0 aR.cells L) 99 4,sepL (q0 G5 L),row Z u.length aa (q0 ay.cells V) 164 6,sepL (q0 GU V)]:=JL jN e8 (rF di.len _ _)
 obtain⟨bK,bL,eF⟩:∃ A9 c9,Own w D iT [je A9 (q5 (r7 1 g)) c9 (q0 di.cells (r7 1 g)) 216 2,blk g0 [vP x 0, .slice W I.length X, .slice O A.av.aI.ls.length J, .bool A.av.bU, .slice A9 (q5 (r7 1 g)) c9] 92,blk bi (di.cells K) 216,blk x [vI a.aa.bC,vU a.aa.aT,vU a.aa.bv,vU a.aa.aL,vU a.aa.aG, .slice B a.aa.ah.ls.length C, .slice P z.length Q, .slice E a.aa.af.ls.length F,vU a.aa.bi,vU a.aa.aM, .string ⟨u3 a.aa.aH.aO⟩, .string ⟨u3 a.aa.aH.aS⟩,vU a.aa.aF.aG,vU a.aa.aF.bu,vU a.aa.aF.dA, .string ⟨u3 a.aa.aF.aB.aO⟩, .string ⟨u3 a.aa.aF.aB.aS⟩, .iface 24 (vP j 0), .slice G h.length N,vP l 0, .pointer none] 80,blk j [.slice s d.xM.ls.length r] 27,blk l [.slice Z u.length aa] 114,row W I.length X (q0 bV.cells T) 47 21,sepL (q0 Hl T),row P z.length Q (q0 bg.cells U) 60 2,sepL (q0 He U),row G h.length N (q0 aR.cells L) 99 4,sepL (q0 G5 L),row Z u.length aa (q0 ay.cells V) 164 6,sepL (q0 GU V)]:=⟨_,_,by rw [iU]; exact jO⟩
 have lH:=eF.rowCQ (i:=0) rfl
 refine nt (Gp (sr (Kz (vP bi 1) (Lz (.bool K.dC) eF 2 Tryz.isAgg4 (nt ?_)))))
 rcases Kq (K.dC) with bn | bn
 refine jT bn (sr (Mz rfl (Kz (vP bi 0) (Lz (vU K.au) eF 2 C4 ?_))))
 have jP:=eF.pf [1,6,7,3,10,11]
 obtain⟨⟨il,eG⟩,eH⟩:∃ q:bJ × ax,j5 (bJ.mk (dH.mk (D4 I) (D4 A.av.aI.ls) A.av.bU) (D4 (r7 1 g))) K.au (ax.mk (bA.mk a.aa.bC a.aa.aT a.aa.bv a.aa.aL a.aa.aG (D4 a.aa.ah.ls) (D4 z) (D4 a.aa.af.ls) a.aa.bi a.aa.aM a.aa.aH a.aa.aF) (D4 h))=q:=⟨_,rfl⟩
 obtain⟨mf,iV,lI,iW,lJ⟩:=Ic jP
 refine cl Tryz.call138 (tQ _ _ g0 (bJ.mk (dH.mk (D4 I) (D4 A.av.aI.ls) A.av.bU) (D4 (r7 1 g))) W X T O J bK bL K.au x (ax.mk (bA.mk a.aa.bC a.aa.aT a.aa.bv a.aa.aL a.aa.aG (D4 a.aa.ah.ls) (D4 z) (D4 a.aa.af.ls) a.aa.bi a.aa.aM a.aa.aH a.aa.aF) (D4 h)) B C P Q E F G N L j l il eG iV bD aB f0 eH) ?_
 rintro _ mg ⟨jR,jS,iX,iZ,ja,jb,rfl,jc,eO,eP,eQ⟩
 have iq:=iW _ _ jc
 have jV:=aW eO
 have jW:=aW eP
 have jX:=zr 1 iq
 have jY:=zr 4 iq
 replace eQ:il.av.bE.ls.length=I.length+1:=eQ
 obtain⟨eT,eU,eX,eY⟩:=Aw (m:=(ax.mk (bA.mk a.aa.bC a.aa.aT a.aa.bv a.aa.aL a.aa.aG (D4 a.aa.ah.ls) (D4 z) (D4 a.aa.af.ls) a.aa.bi a.aa.aM a.aa.aH a.aa.aF) (D4 h))) (line:=g) f6 f6 f6 ah bn eH
 replace eT:Tk eG.ag.ls z u:=eT
 replace eU:Gt eG.ag.ls:=eU
 replace eX:Li (r7 1 g) u:=eX
 replace eY:jQ (r7 1 g) eG.ag.ls u+1<=jQ g h u:=eY
 refine nt (Wp.exit (GK (GR ?_)))
 have jd:=iq.px [0,3,8,9] [7] [4,5,12,13]
 exact GL (jR,jS,iX,il.av.bE.ls,bK,bL,(r7 1 g),P,Q,U,z,iZ,ja,jb,eG.ag.ls,Z,aa,V,u,bf) ⟨rfl,rfl,trivial⟩ (bC.2 ⟨jd,by exact eO,by exact bE,by exact eP,by exact bF,f6,f6,f6,e8,e8,et (aM) (et (ip bI) (et (ae (bz ah)) (et (ip bn) (ae eH))))⟩) (by show bf < bf+1; omega)
 refine jF bn (sk (Gp (Gp ?_)))
 refine l5 14 [] (GD (GD (bH.block (GD (bH.block (GD GQ)))))) eF ?_
 intro lL jf
 refine qv 0 rfl rfl (qp g0 0 1 rfl (qp g0 0 2 rfl (ql 3 rfl 1 Tryz.isAgg28 rfl rfl rfl (qp bi 0 4 rfl (ql 5 rfl 2 C4 rfl rfl rfl ?_)))))
 have dA:=jf.pf [3]
 have jZ:=zr 10 dA
 obtain⟨⟨p,aN⟩,af⟩:∃ q:Int × Bool,dh (ax.mk (bA.mk a.aa.bC a.aa.aT a.aa.bv a.aa.aL a.aa.aG (D4 a.aa.ah.ls) (D4 z) (D4 a.aa.af.ls) a.aa.bi a.aa.aM a.aa.aH a.aa.aF) (D4 h)) K.au=q:=⟨_,rfl⟩
 obtain⟨lM,iw,j3,iy,cB⟩:=G9 dA
 refine qd 6 rfl (GV Tryz.call79 rfl (iY _ _ x (ax.mk (bA.mk a.aa.bC a.aa.aT a.aa.bv a.aa.aL a.aa.aG (D4 a.aa.ah.ls) (D4 z) (D4 a.aa.af.ls) a.aa.bi a.aa.aM a.aa.aH a.aa.aF) (D4 h)) B C P Q E F G N L j l K.au p aN iw aB (cB _ 9 _ rfl bQ) e8 (λ x9 h9=>⟨cB _ 10 _ rfl (bP (M5.2 ⟨x9,h9,b3⟩) bQ),dJ (φ:=λ _=>_) dA (i:=11) rfl (bP (M5.2 ⟨x9,h9,b3⟩) dN),cB _ 10 _ rfl (bP (M5.2 ⟨x9,h9, .tail _ b3⟩) bQ),dJ (φ:=λ _=>_) dA (i:=11) rfl (bP (M5.2 ⟨x9,h9, .tail _ b3⟩) dN)⟩) f0 af) ?_)
 rintro _ lN ⟨rfl,iA,eZ,fe⟩
 have jh:=iy _ _ iA
 replace eZ:0<=p/\p<=(h.length:Int):=eZ
 replace fe:Bool.toNat aN=0\/p < (h.length:Int):=fe
 have M:=jh.pf [1,2,3]
 refine⟨.inr ⟨_,M⟩, ?_⟩
 refine qv 7 rfl rfl (qk (vI p) 8 rfl (qk (.bool aN) 9 rfl (qa 10 rfl rfl (qa 11 rfl rfl (qn (Gs (sr (Mn rfl ?_))))))))
 rcases Kq (aN) with R | R
 have h144t:Bool.toNat aN=1:=by rw [R]; rfl
 refine jT R (Gq (Mz rfl (Kz (vP g0 0) (Kz (vP g0 0) (Lz (vP x 0) M 1 Tryz.isAgg28 (Kz (vP x 0) (Kz (vP x 18) (Lz (.slice G h.length N) M 3 Tryz.isAgg77 (fw (vJ (E0 p)) (Gw (e:=p) (Gv rfl) e8) ?_)))))))))
 obtain⟨b,ag⟩:=dI (ls:=L) (i:=E0 p) aR.len f5 (M.rds (i:=10) rfl) f2
 have az:=fO aB ag
 have j4:b.cK.ls.length<=b.cK.c/\b.cK.ls.length<=9223372036854775807:=dJ M (i:=11) rfl (φ:=λ _=>_) (bP (M5.2 ⟨b,C1 ag,b3⟩) dN)
 have j6:b.bK.ls.length<=b.bK.c/\b.bK.ls.length<=9223372036854775807:=dJ M (i:=11) rfl (φ:=λ _=>_) (bP (M5.2 ⟨b,C1 ag, .tail _ b3⟩) dN)
 obtain⟨kg,ko,kr⟩:(0<=b.aU/\b.aU<=(b.bK.ls.length:Int))/\b.cK.ls.length<=24/\b.bK.ls.length<=24:=Tk.wat (ws:=h) f6 az
 have ku:b.aU < (b.bK.ls.length:Int):=Gt.wat (ws:=h) f6 az
 refine fw (.pointer (some ⟨ab G,ao G+(E0 p) *4,none⟩)) (GI (lC) rfl rfl ((M.rds (i:=10) rfl).addr (i:=E0 p) e8) e8) (Kz (.pointer (some ⟨ab G,ao G+(E0 p) *4+3,none⟩)) (fw (vI b.aU) (GH rfl (bS.one Tryz.isAgg3 (((M.rds (i:=10) rfl).elem aR.len ag f5).at_ (k:=3) rfl))) (fw (vI (b.aU+1)) (Gw (e:=IntKind.i64.wrap (b.aU+1)) yk i4) (fw (.pointer (some ⟨ab G,ao G+(E0 p) *4,none⟩)) (GI (lC) rfl rfl ((M.rds (i:=10) rfl).addr (i:=E0 p) e8) e8) (Kz (.pointer (some ⟨ab G,ao G+(E0 p) *4+3,none⟩)) ?_)))))
 have ji:=M.pf [10]
 refine Hz (Do.storeRow (vs:= [vI (b.aU+1)]) (o:=(E0 p) *4+3) (q:=ao G+(E0 p) *4+3) ji rfl e8 rfl Tryz.sizeOf3 rfl rfl (Kk rfl) (jg aR.len ag (Kk rfl)) (jU (y:=(aR.mk b.au b.cK b.bK (b.aU+1))) aR.len rfl (Kk rfl) ag) ?_)
 intro fP jk
 have fo:Own w D fP [row G h.length N (q0 aR.cells (J0 L (E0 p) (aR.mk b.au b.cK b.bK (b.aU+1)))) 99 4,je bK (q5 (r7 1 g)) bL (q0 di.cells (r7 1 g)) 216 2,blk g0 [vP x 0, .slice W I.length X, .slice O A.av.aI.ls.length J, .bool A.av.bU, .slice bK (q5 (r7 1 g)) bL] 92,blk bi (di.cells K) 216,blk x [vI a.aa.bC,vU a.aa.aT,vU a.aa.bv,vU a.aa.aL,vU a.aa.aG, .slice B a.aa.ah.ls.length C, .slice P z.length Q, .slice E a.aa.af.ls.length F,vU a.aa.bi,vU a.aa.aM, .string ⟨u3 a.aa.aH.aO⟩, .string ⟨u3 a.aa.aH.aS⟩,vU a.aa.aF.aG,vU a.aa.aF.bu,vU a.aa.aF.dA, .string ⟨u3 a.aa.aF.aB.aO⟩, .string ⟨u3 a.aa.aF.aB.aS⟩, .iface 24 (vP j 0), .slice G h.length N,vP l 0, .pointer none] 80,blk j [.slice s d.xM.ls.length r] 27,blk l [.slice Z u.length aa] 114,row W I.length X (q0 bV.cells T) 47 21,sepL (q0 Hl T),row P z.length Q (q0 bg.cells U) 60 2,sepL (q0 He U),sepL (q0 G5 (J0 L (E0 p) (aR.mk b.au b.cK b.bK (b.aU+1)))),row Z u.length aa (q0 ay.cells V) 164 6,sepL (q0 GU V)]:=by rw [lK (f:=G5) (y:=(aR.mk b.au b.cK b.bK (b.aU+1))) ag rfl]; exact jk
 have kv:q5 (J0 L (E0 p) (aR.mk b.au b.cK b.bK (b.aU+1)))=q5 (J0 h (E0 p) (bG.mk b.au (D4 b.cK.ls) (D4 b.bK.ls) (b.aU+1))):=aW (d9 aB rfl)
 have kw:q5 (J0 h (E0 p) (bG.mk b.au (D4 b.cK.ls) (D4 b.bK.ls) (b.aU+1)))=h.length:=J1
 refine ns (Mz rfl (Kz (vP bi 0) (Lz (vU K.au) fo 3 C4 ?_)))
 have ky:Tk (J0 h (E0 p) (bG.mk b.au (D4 b.cK.ls) (D4 b.bK.ls) (b.aU+1))) z u:=Tk.bump f6 az rfl rfl rfl (show (0:Int)<=b.aU+1/\b.aU+1<=(b.bK.ls.length:Int) from by omega)
 have aL:h.length=q5 (J0 h (E0 p) (bG.mk b.au (D4 b.cK.ls) (D4 b.bK.ls) (b.aU+1))):=by first | omega | (simp only [J1]; done) | (simp only [J1,List.length_append,List.length_cons,List.length_nil,List.length_take,m7,List.length_replicate]; omega)
 have jl:Own w D fP [row G (q5 (J0 h (E0 p) (bG.mk b.au (D4 b.cK.ls) (D4 b.bK.ls) (b.aU+1)))) N (q0 aR.cells (J0 L (E0 p) (aR.mk b.au b.cK b.bK (b.aU+1)))) 99 4,je bK (q5 (r7 1 g)) bL (q0 di.cells (r7 1 g)) 216 2,blk g0 [vP x 0, .slice W I.length X, .slice O A.av.aI.ls.length J, .bool A.av.bU, .slice bK (q5 (r7 1 g)) bL] 92,blk bi (di.cells K) 216,blk x [vI a.aa.bC,vU a.aa.aT,vU a.aa.bv,vU a.aa.aL,vU a.aa.aG, .slice B a.aa.ah.ls.length C, .slice P z.length Q, .slice E a.aa.af.ls.length F,vU a.aa.bi,vU a.aa.aM, .string ⟨u3 a.aa.aH.aO⟩, .string ⟨u3 a.aa.aH.aS⟩,vU a.aa.aF.aG,vU a.aa.aF.bu,vU a.aa.aF.dA, .string ⟨u3 a.aa.aF.aB.aO⟩, .string ⟨u3 a.aa.aF.aB.aS⟩, .iface 24 (vP j 0), .slice G (q5 (J0 h (E0 p) (bG.mk b.au (D4 b.cK.ls) (D4 b.bK.ls) (b.aU+1)))) N,vP l 0, .pointer none] 80,blk j [.slice s d.xM.ls.length r] 27,blk l [.slice Z u.length aa] 114,row W I.length X (q0 bV.cells T) 47 21,sepL (q0 Hl T),row P z.length Q (q0 bg.cells U) 60 2,sepL (q0 He U),sepL (q0 G5 (J0 L (E0 p) (aR.mk b.au b.cK b.bK (b.aU+1)))),row Z u.length aa (q0 ay.cells V) 164 6,sepL (q0 GU V)]:=by first | (rw [<- aL]; exact fo) | (have q9:=fo; rw [aL] at q9; exact q9)
 have jm:=jl.px [2,7,8] [] [0,11,5,6,12,13,3]
 obtain⟨⟨bO,aC,ai,aO⟩,bq⟩:∃ q:Int × bJ × ax × aZ,gX (bJ.mk (dH.mk (D4 I) (D4 A.av.aI.ls) A.av.bU) (D4 (r7 1 g))) K.au (ax.mk (bA.mk a.aa.bC a.aa.aT a.aa.bv a.aa.aL a.aa.aG (D4 a.aa.ah.ls) (D4 z) (D4 a.aa.af.ls) a.aa.bi a.aa.aM a.aa.aH a.aa.aF) (D4 (J0 h (E0 p) (bG.mk b.au (D4 b.cK.ls) (D4 b.bK.ls) (b.aU+1))))) d (aZ.mk (D4 u))=q:=⟨_,rfl⟩
 obtain⟨lS,iB,fq,iC,kz⟩:=Ik jm
 refine cl Tryz.call83 (pM _ _ g0 (bJ.mk (dH.mk (D4 I) (D4 A.av.aI.ls) A.av.bU) (D4 (r7 1 g))) W X T O J bK bL K.au x (ax.mk (bA.mk a.aa.bC a.aa.aT a.aa.bv a.aa.aL a.aa.aG (D4 a.aa.ah.ls) (D4 z) (D4 a.aa.af.ls) a.aa.bi a.aa.aM a.aa.aH a.aa.aF) (D4 (J0 h (E0 p) (bG.mk b.au (D4 b.cK.ls) (D4 b.bK.ls) (b.aU+1))))) B C P Q U E F G N (J0 L (E0 p) (aR.mk b.au b.cK b.bK (b.aU+1))) j d s r l (aZ.mk (D4 u)) Z aa V bO aC ai aO iB bD (fq _ dQ) e8 bE (d9 aB rfl) (fq _ aI) e8 bF f6 (by first | omega | exact Tk.n f6) (by first | omega | exact Tk.rows f6) f0 bq) ?_
 rintro _ lT ⟨fT,fU,fV,fZ,gm,gp,gq,gu,gy,gz,gB,gD,gF,gG,rfl,iD,cK,cO,cZ,df⟩
 have aP:=iC _ _ iD
 have kC:=aW cK
 have kD:=aW cO
 have kE:=aW cZ
 have kF:=aW df
 have kG:=zr 1 aP
 have kH:=aP.rowCQ (i:=3) rfl
 have kI:=zr 5 aP
 have kJ:=zr 7 aP
 have kK:=zr 11 aP
 obtain⟨fu,fA,fB,fC,fD⟩:=BD (m:=(ax.mk (bA.mk a.aa.bC a.aa.aT a.aa.bv a.aa.aL a.aa.aG (D4 a.aa.ah.ls) (D4 z) (D4 a.aa.af.ls) a.aa.bi a.aa.aM a.aa.aH a.aa.aF) (D4 h))) (tb:=(aZ.mk (D4 u))) (line:=g) f6 f6 f6 ah (af.trans (congrArg (λ q=>(_,q)) R)) az rfl rfl bq
 replace fu:Tk ai.ag.ls ai.aa.ak.ls aO.ai.ls:=fu
 replace fA:Gt ai.ag.ls:=fA
 replace fB:Li aC.bD.ls aO.ai.ls:=fB
 replace fC:jQ aC.bD.ls ai.ag.ls aO.ai.ls+1<=jQ g h u:=fC
 replace fD:aC.av.bE.ls.length<=I.length+1:=fD
 refine An rfl (Gp ?_)
 have gH:=aP.px [] [13] []
 refine Gq (Mz rfl (fw (.bool (decide (¬ (bO=0)))) (GN (e:= !(decide (bO=0))) yk decide_not.symm) (nt ?_)))
 by_cases dB:bO=0
 refine jF (dF (Ko dB)) (G7 (bN ?_))
 have jo:=gH.pf [0,4,9,10]
 exact GL (fT,fU,fV,aC.av.bE.ls,fZ,gm,aC.bD.ls,gp,gq,gu,ai.aa.ak.ls,gy,gz,gB,ai.ag.ls,gD,gF,gG,aO.ai.ls,bf) ⟨rfl,rfl,trivial⟩ (bC.2 ⟨jo,by exact cK,by exact cO,by exact cZ,by exact df,f6,f6,f6,e8,e8,et (aM) (et (ip bI) (et (ae (bz ah)) (et (dY bn) (et (ae af) (et (ip R) (et (ae (bz az)) (et (ae bq) (ip dB))))))))⟩) (by show bf < bf+1; omega)
 refine jT (dT dB) (sr (Mz rfl (An rfl (rt (bR (tR (bR (tR (rs ?_)))))))))
 have jq:=gH.pf []
 obtain⟨rfl,rfl,rfl,rfl⟩:=iR (zj hr (show _=(bO,bJ.mk (dH.mk (D4 aC.av.bE.ls) (D4 A.av.aI.ls) A.av.bU) (D4 aC.bD.ls),ax.mk (bA.mk a.aa.bC a.aa.aT a.aa.bv a.aa.aL a.aa.aG (D4 a.aa.ah.ls) (D4 ai.aa.ak.ls) (D4 a.aa.af.ls) a.aa.bi a.aa.aM a.aa.aH a.aa.aF) (D4 ai.ag.ls),aO) from iG (et (aM) (et (ip bI) (et (ae (bz ah)) (et (dY bn) (et (ae af) (et (ip R) (et (ae (bz az)) (et (ae bq) (iN dB)))))))))))
 exact⟨fT,fU,fV,fZ,gm,gp,gq,gu,gy,gz,gB,gD,gF,gG,(by first | rfl | (rw [<- aL]; done) | (rw [<- aL]; rfl) | (rw [aL]; first | done | rfl)),jq,cK,cO,cZ,df⟩
 have h144t:Bool.toNat aN=0:=by rw [R]; rfl
 refine jF R (sk (sr (Mz rfl (Kz (vP bi 0) (Lz (vU K.au) M 2 C4 ?_)))))
 have jr:=M.px [1,6,7] [] [4,5,12,13,2]
 obtain⟨⟨bT,aD,aj,aQ⟩,bu⟩:∃ q:Int × bJ × ax × aZ,gX (bJ.mk (dH.mk (D4 I) (D4 A.av.aI.ls) A.av.bU) (D4 (r7 1 g))) K.au (ax.mk (bA.mk a.aa.bC a.aa.aT a.aa.bv a.aa.aL a.aa.aG (D4 a.aa.ah.ls) (D4 z) (D4 a.aa.af.ls) a.aa.bi a.aa.aM a.aa.aH a.aa.aF) (D4 h)) d (aZ.mk (D4 u))=q:=⟨_,rfl⟩
 obtain⟨lU,iE,fF,iF,kL⟩:=Ik jr
 refine cl Tryz.call83 (pM _ _ g0 (bJ.mk (dH.mk (D4 I) (D4 A.av.aI.ls) A.av.bU) (D4 (r7 1 g))) W X T O J bK bL K.au x (ax.mk (bA.mk a.aa.bC a.aa.aT a.aa.bv a.aa.aL a.aa.aG (D4 a.aa.ah.ls) (D4 z) (D4 a.aa.af.ls) a.aa.bi a.aa.aM a.aa.aH a.aa.aF) (D4 h)) B C P Q U E F G N L j d s r l (aZ.mk (D4 u)) Z aa V bT aD aj aQ iE bD (fF _ dQ) e8 bE aB (fF _ aI) e8 bF f6 (by first | omega | exact Tk.n f6) (by first | omega | exact Tk.rows f6) f0 bu) ?_
 rintro _ lV ⟨gI,gJ,gK,gL,gM,gN,gP,gQ,gT,gU,gV,gW,gY,gZ,rfl,iH,dm,dn,dw,dx⟩
 have aS:=iF _ _ iH
 have kM:=aW dm
 have kN:=aW dn
 have kP:=aW dw
 have kQ:=aW dx
 have kR:=zr 1 aS
 have kS:=aS.rowCQ (i:=3) rfl
 have kT:=zr 5 aS
 have kU:=zr 7 aS
 have kV:=zr 11 aS
 obtain⟨fG,fH,fI,fJ,fK⟩:=BF (m:=(ax.mk (bA.mk a.aa.bC a.aa.aT a.aa.bv a.aa.aL a.aa.aG (D4 a.aa.ah.ls) (D4 z) (D4 a.aa.af.ls) a.aa.bi a.aa.aM a.aa.aH a.aa.aF) (D4 h))) (tb:=(aZ.mk (D4 u))) (line:=g) f6 f6 f6 ah af (by rw [R]; decide) rfl bu
 replace fG:Tk aj.ag.ls aj.aa.ak.ls aQ.ai.ls:=fG
 replace fH:Gt aj.ag.ls:=fH
 replace fI:Li aD.bD.ls aQ.ai.ls:=fI
 replace fJ:jQ aD.bD.ls aj.ag.ls aQ.ai.ls+1<=jQ g h u:=fJ
 replace fK:aD.av.bE.ls.length<=I.length+1:=fK
 refine An rfl (Gp ?_)
 have ib:=aS.px [] [13] []
 refine Gq (Mz rfl (fw (.bool (decide (¬ (bT=0)))) (GN (e:= !(decide (bT=0))) yk decide_not.symm) (nt ?_)))
 by_cases dC:bT=0
 refine jF (dF (Ko dC)) (G7 (bN ?_))
 have jv:=ib.pf [0,4,9,10]
 exact GL (gI,gJ,gK,aD.av.bE.ls,gL,gM,aD.bD.ls,gN,gP,gQ,aj.aa.ak.ls,gT,gU,gV,aj.ag.ls,gW,gY,gZ,aQ.ai.ls,bf) ⟨rfl,rfl,trivial⟩ (bC.2 ⟨jv,by exact dm,by exact dn,by exact dw,by exact dx,f6,f6,f6,e8,e8,et (aM) (et (ip bI) (et (ae (bz ah)) (et (dY bn) (et (ae af) (et (dY R) (et (ae bu) (ip dC)))))))⟩) (by show bf < bf+1; omega)
 refine jT (dT dC) (sr (Mz rfl (An rfl (rt (bR (tR (bR (tR (rs ?_)))))))))
 have jw:=ib.pf []
 obtain⟨rfl,rfl,rfl,rfl⟩:=iR (zj hr (show _=(bT,bJ.mk (dH.mk (D4 aD.av.bE.ls) (D4 A.av.aI.ls) A.av.bU) (D4 aD.bD.ls),ax.mk (bA.mk a.aa.bC a.aa.aT a.aa.bv a.aa.aL a.aa.aG (D4 a.aa.ah.ls) (D4 aj.aa.ak.ls) (D4 a.aa.af.ls) a.aa.bi a.aa.aM a.aa.aH a.aa.aF) (D4 aj.ag.ls),aQ) from iG (et (aM) (et (ip bI) (et (ae (bz ah)) (et (dY bn) (et (ae af) (et (dY R) (et (ae bu) (iN dC))))))))))
 exact⟨gI,gJ,gK,gL,gM,gN,gP,gQ,gT,gU,gV,gW,gY,gZ,rfl,jw,dm,dn,dw,dx⟩
 refine jF (dF bI) (Wp.exit (GK ?_))
 have iI:fQ A a d ((jQ A.bD.ls a.ag.ls t.ai.ls)+1) A.av.bE.ls A.bD.ls a.aa.ak.ls a.ag.ls t.ai.ls=Sum.inl (I,g,z,h,u):=et (aM) (iN bI)
 refine GK (GR (Gs (sr (An rfl (rt (rs ?_))))))
 have jy:=cz.px [0,4,5,6] [] [2,3,11,12]
 obtain⟨rfl,rfl,rfl,rfl⟩:=iR (zj hr (show _=(0,bJ.mk (dH.mk (D4 I) (D4 A.av.aI.ls) A.av.bU) (D4 g),ax.mk (bA.mk a.aa.bC a.aa.aT a.aa.bv a.aa.aL a.aa.aG (D4 a.aa.ah.ls) (D4 z) (D4 a.aa.af.ls) a.aa.bi a.aa.aM a.aa.aH a.aa.aF) (D4 h),aZ.mk (D4 u)) from kZ iI))
 exact⟨W,X,T,av,Y,P,Q,U,G,N,L,Z,aa,V,rfl,jy,bD,bE,aB,bF⟩
end
open Int renaming toNat_natCast->K7
open List renaming filter_eq_self->Q4,length_append->m8,length_cons->q6,length_filter_le->N5,length_nil->H2,mem_append->P3,mem_filter->N2,not_mem_nil->u4,pairwise_append->M7,take->t1,take_left'->t5
open Nat renaming le_of_lt_succ->R7,lt_of_lt_of_le->R6
structure Fp (p:bJ) (m:ax) (t:bJ) (m':ax) (tb':aZ):Prop where
  tk:Tk m'.ag.ls m'.aa.ak.ls tb'.ai.ls
  gt:Gt m'.ag.ls
  tx:∀ n,Tx m'.ag.ls m'.aa.ak.ls n->Tx m.ag.ls m.aa.ak.ls n
  wr:t.av.aI=p.av.aI
  st:m'.aa= { m.aa with ak:=m'.aa.ak }
theorem ED {k:Nat} {ws:List bG} {hs:List dD} {n:Nat} (h:Tx (qP k ws) hs n):Tx ws hs n:=by
  rcases h with ⟨w,hw,e⟩ | h
  . exact .inl ⟨w,(N2.1 hw).1,e⟩
  . exact .inr h
theorem Dq (p:bJ) (m:ax) (s:StoreT):∀ (q:Nat) (o:List dM) (l:List di) (hs:List dD) (ws:List bG) (rs:List aK),Tk ws hs rs->Gt ws->Li l rs->jQ l ws rs < q->
    (∀ n,Tx ws hs n->Tx m.ag.ls m.aa.ak.ls n)->
    (∀ o' l' hs' ws' rs',fQ p m s q o l hs ws rs= .inl (o',l',hs',ws',rs')->Tk ws' hs' rs'/\Gt ws'/\(∀ n,Tx ws' hs' n->Tx m.ag.ls m.aa.ak.ls n))/\
    (∀ e t m' tb',fQ p m s q o l hs ws rs= .inr (e,t,m',tb')->Fp p m t m' tb'):=by
  intro q
  induction q with
  | zero=>intro o l hs ws rs _ _ _ h; omega
  | succ q ih=>
    intro o l hs ws rs hk hg hli hq htx
    rw [fQ]
    simp only [dz]
    by_cases B:((q5 l:Nat):Int) > 0
    . rw [if_pos B]
      obtain⟨f,hf⟩:∃ f,l[0]? =some f:=⟨_,List.getElem?_eq_getElem e8⟩
      rw [bz hf]
      by_cases u:f.dC=true
      . rw [if_pos u]
        generalize hd:j5 _ _ _=v
        obtain⟨C,a⟩:=v
        obtain⟨c,d,j,k⟩:=Aw hk hg hli hf u hd
        have g:∀ n,Tx a.ag.ls hs n->Tx m.ag.ls m.aa.ak.ls n:=λ n hn=>htx n (by
          unfold j5 at hd
          rw [dz,wH hk.wu] at hd
          obtain⟨_,rfl⟩:=fC hd
          exact ED hn)
        exact ih _ _ _ _ _ c d j (R6 k (R7 hq)) g
      . rw [if_neg u]
        generalize hfd:dh _ _=D
        obtain⟨i,b⟩:=D
        cases b with
        | true=>
          simp only [if_true]
          have hw:=rQ hk.wu hfd
          obtain⟨x,hx,hxt⟩:=hw
          have hx':ws[E0 i]? =some x:=hx
          have hgx:=hg.wat hx'
          rw [bz hx']
          generalize hgo:gX _ _ _ _ _=v
          obtain⟨w,C,a,z⟩:=v
          obtain⟨c,d,j,k,_⟩:=BD (tb:=aZ.mk (D4 rs)) hk hg hli hf hfd hx rfl rfl hgo
          have hb:=hk.bump (y:=bG.mk x.au (D4 x.cK.ls) (D4 x.bK.ls) (x.aU+1)) hx' rfl rfl rfl (by have:=hk.wat hx'; exact⟨show (0:Int)<=x.aU+1 by omega,show x.aU+1<=((q5 x.bK.ls:Nat):Int) by omega⟩)
          have A:=drop1 hf
          rw [A] at hli
          have hG:=(sJ (tb:=aZ.mk (D4 rs)) hb hli.tail.1 hli.tail.2 (Gx.set (y:=bG.mk x.au (D4 x.cK.ls) (D4 x.bK.ls) (x.aU+1)) (hg.gx f.au) hxt) hgo).1
          have g:∀ n,Tx a.ag.ls a.aa.ak.ls n->Tx m.ag.ls m.aa.ak.ls n:=λ n hn=>htx n (Dp (y:=bG.mk x.au (D4 x.cK.ls) (D4 x.bK.ls) (x.aU+1)) hx' rfl n (hG.tx n hn))
          by_cases r:w=0
          . rw [if_pos r]
            exact ih _ _ _ _ _ c d j (R6 k (R7 hq)) g
          . rw [if_neg r]
            refine⟨λ _ _ _ _ _ h=>(by cases h),λ e t m' tb' h=> ?_⟩
            obtain⟨_,rfl,rfl,rfl⟩:=iR (Sum.inr.inj h)
            exact⟨c,d,g,rfl,rfl⟩
        | false=>
          simp only [Bool.false_eq_true,if_false]
          generalize hgo:gX _ _ _ _ _=v
          obtain⟨w,C,a,z⟩:=v
          obtain⟨c,d,j,k,_⟩:=BF (tb:=aZ.mk (D4 rs)) hk hg hli hf hfd f5 rfl hgo
          have A:=drop1 hf
          rw [A] at hli
          have hG:=(sJ (tb:=aZ.mk (D4 rs)) hk hli.tail.1 hli.tail.2 (hg.gx f.au) hgo).1
          have g:∀ n,Tx a.ag.ls a.aa.ak.ls n->Tx m.ag.ls m.aa.ak.ls n:=λ n hn=>htx n (hG.tx n hn)
          by_cases r:w=0
          . rw [if_pos r]
            exact ih _ _ _ _ _ c d j (R6 k (R7 hq)) g
          . rw [if_neg r]
            refine⟨λ _ _ _ _ _ h=>(by cases h),λ e t m' tb' h=> ?_⟩
            obtain⟨_,rfl,rfl,rfl⟩:=iR (Sum.inr.inj h)
            exact⟨c,d,g,rfl,rfl⟩
    . rw [if_neg B]
      refine⟨λ o' l' hs' ws' rs' h=> ?_,λ _ _ _ _ h=>(by cases h)⟩
      injection h with h
      obtain⟨_,h⟩:=fC h
      obtain⟨_,rfl,rfl,rfl⟩:=iR h
      exact⟨hk,hg,htx⟩
theorem Dr {p:bJ} {m:ax} {s:StoreT} {tb:aZ} (hk:Tk m.ag.ls m.aa.ak.ls tb.ai.ls) (hg:Gt m.ag.ls) (hli:Li p.bD.ls tb.ai.ls) {e:Int} {t:bJ} {m':ax} {tb':aZ} (h:fE p m s tb=(e,t,m',tb')):Fp p m t m' tb':=by
  unfold fE at h
  obtain⟨hl,hr⟩:=Dq p m s (jQ p.bD.ls m.ag.ls tb.ai.ls+1) p.av.bE.ls p.bD.ls m.aa.ak.ls m.ag.ls tb.ai.ls hk hg hli (Nat.lt_succ_self _) (λ _ h=>h)
  cases a:fQ p m s (jQ p.bD.ls m.ag.ls tb.ai.ls+1) p.av.bE.ls p.bD.ls m.aa.ak.ls m.ag.ls tb.ai.ls with
  | inr z=>
    obtain⟨c,d,f,b⟩:=z
    rw [a] at h
    obtain⟨_,rfl,rfl,rfl⟩:=iR (show (c,d,f,b)=(e,t,m',tb') from h)
    exact hr _ _ _ _ a
  | inl z=>
    obtain⟨o,q,g,i,j⟩:=z
    rw [a] at h
    obtain⟨k,l,n⟩:=hl _ _ _ _ _ a
    obtain⟨_,rfl,rfl,rfl⟩:=iR h
    exact⟨k,l,n,rfl,rfl⟩
theorem FE {ws:List bG} {hs:List dD} {rs:List aK} (h:Tk ws hs rs):sg ws<=24 *q5 ws:=by
  have key:∀ l:List bG,(∀ w ∈ l,(0<=w.aU/\w.aU<=((q5 w.bK.ls:Nat):Int))/\q5 w.cK.ls<=24/\q5 w.bK.ls<=24)->sg l<=24 *q5 l:=by
    intro l
    induction l with
    | nil=>intro _; exact Nat.le_refl _
    | cons a l ih=>
      intro h
      have b:=h a b3
      have c:=ih λ w hw=>h w (.tail _ hw)
      rw [wP,q6]
      omega
  exact key ws h.gr
theorem Ay {ws:List bG} {hs:List dD} {rs:List aK} (h:Tk ws hs rs) (l:List di):jQ l ws rs<=300+q5 l:=by
  have a:=FE h
  have b:=h.n
  have c:=h.rows
  have d:=yu rs
  unfold jQ
  omega
theorem Gc:∀ (l:List aY) (o:List aD) (r:(List aD)),gK l o=r->q5 r<=q5 o+q5 l:=by
  intro l
  induction l with
  | nil=>intro o r h; rw [gK] at h; rw [<- h]; exact Nat.le_refl _
  | cons a l ih=>
    intro o r h
    have key:∀ y:aD,gK l (o++ [y])=r->q5 r<=q5 o+q5 (a::l):=λ y hy=>by
      have:=ih _ _ hy
      simp only [m8,q6,H2] at this ⊢
      omega
    rw [gK] at h
    simp only [dz] at h
    repeat' split at h
    all_goals exact key _ h
theorem zm {l:List aY} {r:List aD} {e:Int} (h:ry l=(r,e)):q5 r<=q5 l:=by
  unfold ry at h
  rw [dz] at h
  split at h
  . rw [dz] at h
    obtain⟨rfl,_⟩:=fC h
    have:=Gc l [] _ rfl
    simpa using this
  . obtain⟨rfl,_⟩:=fC h; exact Km _
theorem yD {m:ax} {x:dM} {b:Bool} (h:kv m x=b) (hb:b=false) (f:q5 m.aa.ak.ls<=1000) (g:q5 m.ag.ls<=1000) (i:q5 m.aa.af.ls<=1000):
    q5 m.aa.ak.ls+q5 m.ag.ls < 6/\q5 m.aa.ak.ls+q5 m.ag.ls+q5 m.aa.af.ls < 64:=by
  subst hb
  unfold kv at h
  have c:IntKind.i64.wrap (((q5 m.aa.ak.ls:Nat):Int)+((q5 m.ag.ls:Nat):Int))=((q5 m.aa.ak.ls:Nat):Int)+((q5 m.ag.ls:Nat):Int):=Kl _ e8
  have d:IntKind.i64.wrap (((q5 m.aa.ak.ls:Nat):Int)+((q5 m.ag.ls:Nat):Int)+((q5 m.aa.af.ls:Nat):Int))=((q5 m.aa.ak.ls:Nat):Int)+((q5 m.ag.ls:Nat):Int)+((q5 m.aa.af.ls:Nat):Int):=Kl _ e8
  rw [c,d] at h
  by_cases a:((q5 m.aa.ak.ls:Nat):Int)+((q5 m.ag.ls:Nat):Int) >= 6
  . rw [if_pos a] at h; cases h
  . rw [if_neg a] at h
    by_cases e:((q5 m.aa.ak.ls:Nat):Int)+((q5 m.ag.ls:Nat):Int)+((q5 m.aa.af.ls:Nat):Int) >= 64
    . rw [if_pos e] at h; cases h
    . exact⟨e8,e8⟩
theorem Fq {P:Prop} (h:true=false):P:=Bool.noConfusion h
theorem hnot {hs:List dD} (hu:vz hs) {k:Nat} {j:Int} (hf:bI hs k=(j,false)):∀ h ∈ hs,h.aV≠k:=λ z hz e=>by
  rcases ug hu k with ⟨a,p,q,c,hp,ha,hq,h⟩ | ⟨a,q,c,ha,hq,h⟩
  . rw [h] at hf; exact Fq (congrArg Prod.snd hf)
  . rw [c] at hz
    rcases P3.1 hz with b | b
    . have:=ha z b; omega
    . have:=hq z b; omega
theorem Gd {ws:List bG} (hu:rO ws) {k:Nat} {j:Int} (hf:bF ws k=(j,false)):∀ w ∈ ws,w.au≠k:=λ z hz e=>by
  rcases rP hu k with ⟨a,p,q,c,hp,ha,hq,h⟩ | ⟨a,q,c,ha,hq,h⟩
  . rw [h] at hf; exact Fq (congrArg Prod.snd hf)
  . rw [c] at hz
    rcases P3.1 hz with b | b
    . have:=ha z b; omega
    . have:=hq z b; omega
theorem EE {ws:List bG} (hu:rO ws) {z:bG} {j:Int} {b:Bool} (hf:bF ws z.au=(j,b)) (hn:∀ w ∈ ws,w.au≠z.au):rO (t1 (E0 j) ws++(z::r7 (E0 j) ws)):=by
  rcases rP hu z.au with ⟨a,p,q,c,hp,ha,hq,h⟩ | ⟨a,q,c,ha,hq,h⟩
  . exact absurd hp (hn p (by rw [c]; simp))
  . rw [h] at hf
    have d:j=(a.length:Int):=(congrArg Prod.fst hf).symm
    rw [d,K7,c,t5 rfl,List.drop_left' rfl]
    rw [c] at hu
    obtain⟨f,g,i⟩:=M7.1 hu
    exact M7.2 ⟨f,List.pairwise_cons.2 ⟨hq,g⟩,λ r hr s hs=>by
      rcases List.mem_cons.1 hs with e | e
      . rw [e]; exact ha r hr
      . exact i r hr s e⟩
theorem Dt {m:ax} {rs:List aK} {k:Nat} {i j:Int} {bw bh:Bool} {o:List aY} {l:List aD} (h:Tk m.ag.ls m.aa.ak.ls rs) (hg:Gt m.ag.ls) (hh:eY m k=(j,bh)) (hb:bh=false) (hw:dh m k=(i,bw)) (hc:bw=false)
    (hn:q5 m.aa.ak.ls+q5 m.ag.ls < 6) (ho:q5 o<=24) (hl:q5 l<=24):
    Tk (t1 (E0 i) m.ag.ls++((bG.mk k (D4 o) (D4 l) 0)::r7 (E0 i) m.ag.ls)) m.aa.ak.ls rs/\Gx k (t1 (E0 i) m.ag.ls++((bG.mk k (D4 o) (D4 l) 0)::r7 (E0 i) m.ag.ls)):=by
  subst hb hc
  rw [hfind] at hh
  rw [Em] at hw
  have nh:=hnot h.hu hh
  have nw:=Gd h.wu hw
  refine⟨⟨EE (z:=bG.mk k (D4 o) (D4 l) 0) h.wu hw nw,h.hu,λ w hw z hz=> ?_, ?_,λ w hw=> ?_,h.ho,h.snd,λ r hr=> ?_⟩,λ w hw hk=> ?_⟩
  . rcases oq.1 hw with e | e
    . rw [e]; exact(nh z hz).symm
    . exact h.dj w e z hz
  . have a:q5 (t1 (E0 i) m.ag.ls)+q5 (r7 (E0 i) m.ag.ls)=q5 m.ag.ls:=by rw [<- m8,List.take_append_drop]
    rw [m8,q6]; omega
  . rcases oq.1 hw with e | e
    . rw [e]; exact⟨⟨Int.le_refl _,by show (0:Int)<=_; omega⟩,ho,hl⟩
    . exact h.gr w e
  . rcases h.vB r hr with ⟨w,hw,e⟩ | e
    . exact .inl ⟨w,oq.2 (.inr hw),e⟩
    . exact .inr e
  . rcases oq.1 hw with e | e
    . rw [e] at hk; exact absurd rfl hk
    . exact hg w e
def xL (k:Nat) (l:List dD):List dD:=l.filter λ h=>decide (h.aV≠k)
theorem BG {hs:List dD} (hu:vz hs) {k:Nat} {j:Int} (hf:bI hs k=(j,true)):t1 (E0 j) hs++r7 (E0 j+1) hs=xL k hs:=by
  rcases ug hu k with ⟨a,p,q,b,hp,ha,hq,h⟩ | ⟨a,q,b,ha,hq,h⟩
  . rw [h] at hf
    have c:j=(a.length:Int):=(congrArg Prod.fst hf).symm
    have d:a.filter (λ w=>decide (w.aV≠k))=a:=Q4.2 λ r hr=>decide_eq_true (Nat.ne_of_lt (ha r hr))
    have e:q.filter (λ w=>decide (w.aV≠k))=q:=Q4.2 λ r hr=>decide_eq_true (Nat.ne_of_gt (hq r hr))
    have f:t1 a.length hs=a:=by rw [b]; exact t5 rfl
    have g:r7 (a.length+1) hs=q:=by rw [b]; simp
    rw [c,K7,f,g]
    unfold xL
    rw [b,List.filter_append,List.filter_cons_of_neg (by simp [hp]),d,e]
  . rw [h] at hf; exact Bool.noConfusion (show false=true from congrArg Prod.snd hf)
theorem BH {hs:List dD} {k:Nat} (h:∀ z ∈ hs,z.aV≠k):xL k hs=hs:=Q4.2 λ z hz=>decide_eq_true (h z hz)
theorem Fs {ws:List bG} {hs:List dD} {rs rs':List aK} {k:Nat} (h:Tk ws hs rs) (hr:∀ q ∈ rs',q.au≠k/\∃ s ∈ rs,s.au=q.au) (hs':jh rs'):Tk (qP k ws) (xL k hs) rs' where
  wu:=h.wu.filter _
  hu:=h.hu.filter _
  dj:=λ w hw z hz=>h.dj w (N2.1 hw).1 z (N2.1 hz).1
  n:=by
    have:=h.n
    have b:=N5 (λ w:bG=>decide (w.au≠k)) ws
    have c:=N5 (λ w:dD=>decide (w.aV≠k)) hs
    unfold qP xL; omega
  gr:=λ w hw=>h.gr w (N2.1 hw).1
  ho:=λ w hw=>h.ho w (N2.1 hw).1
  snd:=hs'
  vB:=λ q hq=>by
    obtain⟨b,s,c,a⟩:=hr q hq
    rcases h.vB s c with ⟨w,hw,e⟩ | ⟨z,hz,e⟩
    . exact .inl ⟨w,N2.2 ⟨hw,decide_eq_true (by rw [e,a]; exact b)⟩,by rw [e,a]⟩
    . exact .inr ⟨z,N2.2 ⟨hz,decide_eq_true (by rw [e,a]; exact b)⟩,by rw [e,a]⟩
theorem AA {m m1 r:ax} {tb tb':aZ} {k:Nat} {j:Int} {b:Bool} {hs':List dD} {p t:bJ} {mr:ax} (h:Tk m.ag.ls m.aa.ak.ls tb.ai.ls) (hg:Gt m.ag.ls) (hf:eY m k=(j,b))
    (a:(b=true/\hs'=t1 (E0 j) m.aa.ak.ls++r7 (E0 j+1) m.aa.ak.ls)\/(b=false/\hs'=m.aa.ak.ls)) (hm:m1.ag=m.ag) (hd:eU m1 k=r) (hl:p.bD.ls= []) (hr:gu p k mr tb=(t,tb')):
    Tk r.ag.ls hs' tb'.ai.ls/\Gt r.ag.ls/\Li t.bD.ls tb'.ai.ls/\q5 t.bD.ls<=6:=by
  obtain⟨i,f,g,c,d⟩:=Av h.snd hr
  have hw:rO m1.ag.ls:=by rw [hm]; exact h.wu
  rw [wH hw] at hd
  subst hd
  rw [hfind] at hf
  have e:hs'=xL k m.aa.ak.ls:=by
    rcases a with ⟨rfl,e⟩ | ⟨rfl,e⟩
    . rw [e]; exact BG h.hu hf
    . rw [e]; exact(BH (hnot h.hu hf)).symm
  rw [e]
  have l:=h.rows
  have n:=yu tb.ai.ls
  rw [hl] at c d
  refine⟨?_,λ w hw=>hg w ?_,d (Au _) (λ _ h=>absurd h u4),by simp only [H2] at c; omega⟩
  . show Tk (qP k m1.ag.ls) _ _
    rw [hm]; exact Fs h f g
  . have:=(N2.1 hw).1
    rw [hm] at this; exact this
theorem goes {p:bJ} {k:Nat} {m:ax} {s:StoreT} {tb:aZ} {e:Int} {t:bJ} {m':ax} {tb':aZ} (hk:Tk m.ag.ls m.aa.ak.ls tb.ai.ls) (hg:Gx k m.ag.ls) (hl:p.bD.ls= []) (h:gX p k m s tb=(e,t,m',tb')):
    Tk m'.ag.ls m'.aa.ak.ls tb'.ai.ls/\Gt m'.ag.ls/\Li t.bD.ls tb'.ai.ls/\q5 t.av.bE.ls<=q5 p.av.bE.ls+1/\jQ t.bD.ls m'.ag.ls tb'.ai.ls<=302:=by
  obtain⟨a,b,_⟩:=sJ hk (by rw [hl]; exact Au _) (by rw [hl]; exact λ _ h=>absurd h u4) hg h
  have c:=Ay hk p.bD.ls
  have d:q5 p.bD.ls=0:=by rw [hl]; rfl
  exact⟨a.tk,a.gt,a.li,a.out,e8⟩
open List renaming flatMap_append->t2,length_take->m6
open Sv renaming mk->L3
open _root_.Go.Proofs.Tryz renaming call36->R8,call84->R9,isAgg28->P0,isAgg34->C0,isAgg44->C6,isAgg47->G0,sizeOf47->G1,underlying50->P2
section
open Go.RowKit
def mi (f:bJ) (j:dM) (a:ax) (g:StoreT) (d:aZ):Int × bJ × ax × aZ:=
 bnd (jP a j.bi) λ b=>bnd (eO b.aa.af.ls j.aV) λ o=>if o.2=true then(0,f,ax.mk (bA.mk a.aa.bC a.aa.aT a.aa.bv a.aa.aL a.aa.aG (D4 a.aa.ah.ls) (D4 a.aa.ak.ls) (D4 b.aa.af.ls) b.aa.bi a.aa.aM a.aa.aH a.aa.aF) (D4 a.ag.ls),d) else if(j.aV:Int) < (b.aa.bi:Int) then(0,f,ax.mk (bA.mk a.aa.bC a.aa.aT a.aa.bv a.aa.aL a.aa.aG (D4 a.aa.ah.ls) (D4 a.aa.ak.ls) (D4 b.aa.af.ls) b.aa.bi a.aa.aM a.aa.aH a.aa.aF) (D4 a.ag.ls),d) else bnd (eY (ax.mk (bA.mk a.aa.bC a.aa.aT a.aa.bv a.aa.aL a.aa.aG (D4 a.aa.ah.ls) (D4 a.aa.ak.ls) (D4 b.aa.af.ls) b.aa.bi a.aa.aM a.aa.aH a.aa.aF) (D4 a.ag.ls)) j.aV) λ k=>if k.2=true then bnd (List.getD a.aa.ak.ls (E0 k.1) default) λ l=>bnd (ji f (dD.mk l.aV (D4 l.aJ.ls)) (ax.mk (bA.mk a.aa.bC a.aa.aT a.aa.bv a.aa.aL a.aa.aG (D4 a.aa.ah.ls) (D4 a.aa.ak.ls) (D4 b.aa.af.ls) b.aa.bi a.aa.aM a.aa.aH a.aa.aF) (D4 a.ag.ls)) g) λ m=>(m.1,bJ.mk (dH.mk (D4 m.2.av.bE.ls) (D4 f.av.aI.ls) f.av.bU) (D4 f.bD.ls),ax.mk (bA.mk a.aa.bC a.aa.aT a.aa.bv a.aa.aL a.aa.aG (D4 a.aa.ah.ls) (D4 a.aa.ak.ls) (D4 b.aa.af.ls) b.aa.bi a.aa.aM a.aa.aH a.aa.aF) (D4 a.ag.ls),d) else bnd (dh (ax.mk (bA.mk a.aa.bC a.aa.aT a.aa.bv a.aa.aL a.aa.aG (D4 a.aa.ah.ls) (D4 a.aa.ak.ls) (D4 b.aa.af.ls) b.aa.bi a.aa.aM a.aa.aH a.aa.aF) (D4 a.ag.ls)) j.aV) λ h=>if h.2=true then(0,f,ax.mk (bA.mk a.aa.bC a.aa.aT a.aa.bv a.aa.aL a.aa.aG (D4 a.aa.ah.ls) (D4 a.aa.ak.ls) (D4 b.aa.af.ls) b.aa.bi a.aa.aM a.aa.aH a.aa.aF) (D4 a.ag.ls),d) else bnd (kv (ax.mk (bA.mk a.aa.bC a.aa.aT a.aa.bv a.aa.aL a.aa.aG (D4 a.aa.ah.ls) (D4 a.aa.ak.ls) (D4 b.aa.af.ls) b.aa.bi a.aa.aM a.aa.aH a.aa.aF) (D4 a.ag.ls)) j) λ n=>if n=true then(0,bJ.mk (dH.mk (D4 (f.av.bE.ls++ [(dM.mk 4 a.aa.bC 0 0 4 0 0 0 j.aV 0 0 0 0 0 0 false (aj.mk [] []) (D4 []) (D4 []) (D4 []))])) (D4 f.av.aI.ls) f.av.bU) (D4 f.bD.ls),ax.mk (bA.mk a.aa.bC a.aa.aT a.aa.bv a.aa.aL a.aa.aG (D4 a.aa.ah.ls) (D4 a.aa.ak.ls) (D4 b.aa.af.ls) b.aa.bi a.aa.aM a.aa.aH a.aa.aF) (D4 a.ag.ls),d) else bnd (ry j.aJ.ls) λ i=>if i.2=0 then bnd (gX f j.aV (ax.mk (bA.mk a.aa.bC a.aa.aT a.aa.bv a.aa.aL a.aa.aG (D4 a.aa.ah.ls) (D4 a.aa.ak.ls) (D4 b.aa.af.ls) b.aa.bi a.aa.aM a.aa.aH a.aa.aF) (D4 (t1 (E0 h.1) a.ag.ls++((bG.mk j.aV (D4 j.aJ.ls) (D4 i.1) 0)::r7 (E0 h.1) a.ag.ls)))) g d) λ c=>if c.1=0 then bnd (fE (bJ.mk (dH.mk (D4 c.2.1.av.bE.ls) (D4 f.av.aI.ls) f.av.bU) (D4 c.2.1.bD.ls)) (ax.mk (bA.mk a.aa.bC a.aa.aT a.aa.bv a.aa.aL a.aa.aG (D4 a.aa.ah.ls) (D4 c.2.2.1.aa.ak.ls) (D4 b.aa.af.ls) b.aa.bi a.aa.aM a.aa.aH a.aa.aF) (D4 c.2.2.1.ag.ls)) g c.2.2.2) λ e=>(e.1,bJ.mk (dH.mk (D4 e.2.1.av.bE.ls) (D4 f.av.aI.ls) f.av.bU) (D4 e.2.1.bD.ls),ax.mk (bA.mk a.aa.bC a.aa.aT a.aa.bv a.aa.aL a.aa.aG (D4 a.aa.ah.ls) (D4 e.2.2.1.aa.ak.ls) (D4 b.aa.af.ls) b.aa.bi a.aa.aM a.aa.aH a.aa.aF) (D4 e.2.2.1.ag.ls),e.2.2.2) else(c.1,bJ.mk (dH.mk (D4 c.2.1.av.bE.ls) (D4 f.av.aI.ls) f.av.bU) (D4 c.2.1.bD.ls),ax.mk (bA.mk a.aa.bC a.aa.aT a.aa.bv a.aa.aL a.aa.aG (D4 a.aa.ah.ls) (D4 c.2.2.1.aa.ak.ls) (D4 b.aa.af.ls) b.aa.bi a.aa.aM a.aa.aH a.aa.aF) (D4 c.2.2.1.ag.ls),c.2.2.2) else(i.2,f,ax.mk (bA.mk a.aa.bC a.aa.aT a.aa.bv a.aa.aL a.aa.aG (D4 a.aa.ah.ls) (D4 a.aa.ak.ls) (D4 b.aa.af.ls) b.aa.bi a.aa.aM a.aa.aH a.aa.aF) (D4 a.ag.ls),d)
theorem wT (w D g0) (T:bJ) (aL aM X bu aG ai ak) (b:dM) (aH gy au bv gz aS dE bB gB aT h) (a:ax) (U Q j p O bK bN F u B R) (g:StoreT) (V J S) (r:aZ) (K L E r0) (r1:bJ) (r2:ax) (r3:aZ) (H:Own w D w [blk g0 [.pointer (some ⟨h,0,none⟩), .slice aL T.av.bE.ls.length aM, .slice bu T.av.aI.ls.length aG, .bool T.av.bU, .slice ai T.bD.ls.length ak] 92,row aL T.av.bE.ls.length aM (q0 bV.cells X) 47 21,sepL (q0 Hl X),je ai T.bD.ls.length ak (q0 di.cells T.bD.ls) 216 2,blk h [.int .i64 a.aa.bC, .int .u64 ((a.aa.aT:Nat):Int), .int .u64 ((a.aa.bv:Nat):Int), .int .u64 ((a.aa.aL:Nat):Int), .int .u64 ((a.aa.aG:Nat):Int), .slice U a.aa.ah.ls.length Q, .slice j a.aa.ak.ls.length p, .slice bK a.aa.af.ls.length bN, .int .u64 ((a.aa.bi:Nat):Int), .int .u64 ((a.aa.aM:Nat):Int), .string ⟨u3 a.aa.aH.aO⟩, .string ⟨u3 a.aa.aH.aS⟩, .int .u64 ((a.aa.aF.aG:Nat):Int), .int .u64 ((a.aa.aF.bu:Nat):Int), .int .u64 ((a.aa.aF.dA:Nat):Int), .string ⟨u3 a.aa.aF.aB.aO⟩, .string ⟨u3 a.aa.aF.aB.aS⟩, .iface 24 (.pointer (some ⟨R,0,none⟩)), .slice F a.ag.ls.length u, .pointer (some ⟨S,0,none⟩), .pointer none] 80,row j a.aa.ak.ls.length p (q0 bg.cells O) 60 2,sepL (q0 He O),row bK a.aa.af.ls.length bN (q0 (eN .u64) a.aa.af.ls) 32 1,row F a.ag.ls.length u (q0 aR.cells B) 99 4,sepL (q0 G5 B),blk R [.slice V g.xM.ls.length J] 27,blk S [.slice K r.ai.ls.length L] 114,row K r.ai.ls.length L (q0 ay.cells E) 164 6,sepL (q0 GU E)]) (W:r8 bV.abs X=T.av.bE.ls) (cz:Ro w D λ w'=>bM w' 6 bu T.av.aI.ls.length (q0 aY.cells T.av.aI.ls)) (mD:T.av.aI.ls.length<=aG/\T.av.aI.ls.length<=9223372036854775807) (iV:gy=b.aJ.ls.length) (cK:Ro w D λ w'=>bM w' 6 aH b.aJ.ls.length (q0 aY.cells b.aJ.ls)) (mE:b.aJ.ls.length<=au/\b.aJ.ls.length<=9223372036854775807) (dR:r8 aP.abs dE=b.aQ.ls) (iW:gz=b.aQ.ls.length) (iX:Ro w D λ w'=>bM w' 3 bv b.aQ.ls.length (q0 aP.cells dE)) (mF:b.aQ.ls.length<=aS/\b.aQ.ls.length<=9223372036854775807) (dS:∀ x ∈ dE,Ro w D (λ w'=>bM w' 2 x.bq.A x.bq.ls.length (q0 aA.cells x.bq.ls))/\(x.bq.ls.length<=x.bq.c/\x.bq.ls.length<=9223372036854775807)) (iZ:gB=b.ah.ls.length) (ja:Ro w D λ w'=>bM w' 2 bB b.ah.ls.length (q0 bL.cells b.ah.ls)) (mG:b.ah.ls.length<=aT/\b.ah.ls.length<=9223372036854775807) (dU:Ro w D λ w'=>bM w' 2 U a.aa.ah.ls.length (q0 bL.cells a.aa.ah.ls)) (jY:a.aa.ah.ls.length<=Q/\a.aa.ah.ls.length<=9223372036854775807) (N:r8 bg.abs O=a.aa.ak.ls) (G:r8 aR.abs B=a.ag.ls) (az:Ro w D λ w'=>bM w' 2 V g.xM.ls.length (q0 aA.cells g.xM.ls)) (jb:g.xM.ls.length<=J/\g.xM.ls.length<=9223372036854775807) (I:r8 ay.abs E=r.ai.ls) (pR:Tk a.ag.ls a.aa.ak.ls r.ai.ls) (pU:Gt a.ag.ls) (pV:T.bD.ls= []) (pW:a.ag.ls.length+a.aa.ak.ls.length<=6) (pX:r.ai.ls.length<=6) (pY:T.bD.ls.length<=0/\T.av.bE.ls.length<=1000/\T.av.aI.ls.length<=100/\g.xM.ls.length<=4000/\a.aa.ah.ls.length<=1000/\a.aa.af.ls.length<=999) (p8: ¬ (b.az=3)\/b.aJ.ls.length<=24) (p9:b.az=3) (hr:mi T b a g r=(r0,r1,r2,r3)):
    Calls Tryz.prog 39 #[vP g0 0, .agg (ic b.az b.iO b.jD b.gJ b.fG b.iB b.gp b.aT b.aV b.bi b.bv b.aL b.aG b.bu b.xN b.fZ b.aB.aO b.aB.aS aH gy au bv gz aS bB gB aT).toArray] w (dG λ v w'=> ∃ dV dW cO dX dZ d9 ed cZ ek eu eB eD df eF eG dm,v=vI r0/\Own w D w' [blk g0 [vP h 0, .slice dV r1.av.bE.ls.length dW, .slice bu T.av.aI.ls.length aG, .bool T.av.bU, .slice dX r1.bD.ls.length dZ] 92,row dV r1.av.bE.ls.length dW (q0 bV.cells cO) 47 21,sepL (q0 Hl cO),je dX r1.bD.ls.length dZ (q0 di.cells r1.bD.ls) 216 2,blk h [vI a.aa.bC,vU a.aa.aT,vU a.aa.bv,vU a.aa.aL,vU a.aa.aG, .slice U a.aa.ah.ls.length Q, .slice d9 r2.aa.ak.ls.length ed, .slice ek r2.aa.af.ls.length eu,vU r2.aa.bi,vU a.aa.aM, .string ⟨u3 a.aa.aH.aO⟩, .string ⟨u3 a.aa.aH.aS⟩,vU a.aa.aF.aG,vU a.aa.aF.bu,vU a.aa.aF.dA, .string ⟨u3 a.aa.aF.aB.aO⟩, .string ⟨u3 a.aa.aF.aB.aS⟩, .iface 24 (vP R 0), .slice eB r2.ag.ls.length eD,vP S 0, .pointer none] 80,row d9 r2.aa.ak.ls.length ed (q0 bg.cells cZ) 60 2,sepL (q0 He cZ),row ek r2.aa.af.ls.length eu (q0 (eN .u64) r2.aa.af.ls) 32 1,row eB r2.ag.ls.length eD (q0 aR.cells df) 99 4,sepL (q0 G5 df),blk R [.slice V g.xM.ls.length J] 27,blk S [.slice eF r3.ai.ls.length eG] 114,row eF r3.ai.ls.length eG (q0 ay.cells dm) 164 6,sepL (q0 GU dm)]/\(r8 bV.abs cO=r1.av.bE.ls)/\(r8 bg.abs cZ=r2.aa.ak.ls)/\(r8 aR.abs df=r2.ag.ls)/\(r8 ay.abs dm=r3.ai.ls)):=by
 subst iV iW iZ
 have mq:=aW W
 have mr:=aW dR
 have jW:=aW N
 have jX:=aW G
 have gD:=aW I
 have mH:=zr 1 H
 have mI:=H.rowCQ (i:=3) rfl
 have j3:=zr 5 H
 have j4:=zr 7 H
 have j5:=zr 8 H
 refine cb Tryz.func39 ?_
 refine sr ?_
 refine bW (lN b aH au bv aS bB aT) 47 H ?_
 intro bn qb mK
 refine An rfl (Gp ?_)
 have mM:=mK.pb [5,6,7,8,9,10]
 refine l5 9 [] (GD GQ) mM ?_
 intro qc mO
 refine qv 0 rfl rfl (qp g0 0 1 rfl (qp g0 0 2 rfl (ql 3 rfl 1 P0 rfl rfl rfl (qp bn 9 4 rfl (ql 5 rfl 0 C4 rfl rfl rfl ?_)))))
 have mP:=mO.pf [9,12]
 obtain⟨d,aI⟩:∃ q,jP a b.bi=q:=⟨_,rfl⟩
 obtain⟨qf,j6,oC,ko,oD⟩:=Ht mP
 refine qd 6 rfl (GV Tryz.call75 rfl (tN _ _ h a U Q j p bK bN F u R S b.bi d j6 f0 aI) ?_)
 rintro _ qg ⟨aB,aC,rfl,kr,gF⟩
 have ku:=ko _ _ kr
 have oF:=zr 1 ku
 replace gF:d.aa.af.ls.length<=a.aa.af.ls.length:=gF
 have kw:=ku.pb [0,1,11,12,13,14]
 refine⟨.inr ⟨_,kw⟩, ?_⟩
 refine qn (Gs (Gp (Gp ?_)))
 refine l5 15 [] (GD (GD GQ)) kw ?_
 intro qh mQ
 refine qv 0 rfl rfl (qp g0 0 1 rfl (qp g0 0 2 rfl (ql 3 rfl 1 P0 rfl rfl rfl (qp h 0 4 rfl (qp h 0 5 rfl (qp h 7 6 rfl (ql 7 rfl 9 Tryz.isAgg35 rfl rfl rfl (qp bn 8 8 rfl (ql 9 rfl 0 C4 rfl rfl rfl ?_)))))))))
 obtain⟨⟨gq,jc⟩,aJ⟩:∃ q:Int × Bool,eO d.aa.af.ls b.aV=q:=⟨_,rfl⟩
 obtain⟨qi,ky,oG,kz,kC⟩:=Gr mQ
 refine qd 10 rfl (GV Tryz.call76 rfl (jZ _ _ aB d.aa.af.ls.length aC d.aa.af.ls b.aV gq jc ky (kC _ 10 _ rfl bQ) rfl e8 aJ) ?_)
 rintro _ qj ⟨rfl,kD,gG⟩
 have kE:=kz _ _ kD
 replace gG:0<=gq/\gq<=(d.aa.af.ls.length:Int):=gG
 refine⟨.inr ⟨_,kE⟩, ?_⟩
 refine qv 11 rfl rfl (qk (vI gq) 12 rfl (qk (.bool jc) 13 rfl (qa 14 rfl rfl (qa 15 rfl rfl (qn (Gs (Gp ?_)))))))
 refine l5 15 [] (GD (GD GQ)) kE ?_
 intro qm jd
 refine qv 0 rfl rfl (qv 1 rfl rfl ?_)
 rcases Kq (jc) with M | M
 refine Gy (rs:= []) 2 rfl rfl rfl M e9 (Gy (rs:= []) 3 rfl rfl rfl M e9 (Gy (rs:= []) 4 rfl rfl rfl M e9 (Gy (rs:= []) 5 rfl rfl rfl M e9 (Gy (rs:= []) 6 rfl rfl rfl M e9 (Gy (rs:= []) 7 rfl rfl rfl M e9 (Gy (rs:= []) 8 rfl rfl rfl M e9 (Gy (rs:= []) 9 rfl rfl rfl M e9 (Gy (rs:= []) 10 rfl rfl rfl M e9 (Gy (rs:= []) 11 rfl rfl rfl M e9 (Gy (rs:= []) 12 rfl rfl rfl M e9 (qt (v:= .bool true) 13 rfl (λ _ _=>Gu rfl M rfl) (qn (Gs (jt (sr (An rfl (rt (tR (rs ?_)))))))))))))))))))
 have mR:=jd.px [] [0] [10,13,14,5,6,7,8]
 obtain⟨rfl,rfl,rfl,rfl⟩:=iR (zj hr (show _=(0,T,ax.mk (bA.mk a.aa.bC a.aa.aT a.aa.bv a.aa.aL a.aa.aG (D4 a.aa.ah.ls) (D4 a.aa.ak.ls) (D4 d.aa.af.ls) d.aa.bi a.aa.aM a.aa.aH a.aa.aF) (D4 a.ag.ls),r) from et (ae aI) (et (ae aJ) (ip M)))).symm
 exact⟨aL,aM,X,ai,ak,j,p,O,aB,aC,F,u,B,K,L,E,rfl,mR,W,N,G,I⟩
 refine GG (v:=vP bn 8) (rs:= []) 2 rfl rfl rfl M e9 (λ _ _=>yk) (GG (v:=vU b.aV) (rs:= []) 3 rfl rfl rfl M e9 (λ _ ⟨_,H9⟩=>GH rfl (bS.one C4 (Ho (H9.cls (i:=0) rfl) rfl))) (GG (v:=vP g0 0) (rs:= []) 4 rfl rfl rfl M e9 (λ _ _=>Gv rfl) (GG (v:=vP g0 0) (rs:= []) 5 rfl rfl rfl M e9 (λ _ _=>yk) (GG (v:=vP g0 0) (rs:= []) 6 rfl rfl rfl M e9 (λ _ _=>yk) (GG (v:=vP h 0) (rs:= []) 7 rfl rfl rfl M e9 (λ _ ⟨_,H9⟩=>GH rfl (bS.one P0 (Ho (H9.cls (i:=1) rfl) rfl))) (GG (v:=vP h 0) (rs:= []) 8 rfl rfl rfl M e9 (λ _ _=>yk) (GG (v:=vP h 0) (rs:= []) 9 rfl rfl rfl M e9 (λ _ _=>yk) (GG (v:=vP h 8) (rs:= []) 10 rfl rfl rfl M e9 (λ _ _=>yk) (GG (v:=vU d.aa.bi) (rs:= []) 11 rfl rfl rfl M e9 (λ _ ⟨_,H9⟩=>GH rfl (bS.one C4 (Ho (H9.cls (i:=9) rfl) rfl))) (GG (v:= .bool (decide ((b.aV:Int) < (d.aa.bi:Int)))) (rs:= []) 12 rfl rfl rfl M e9 (λ _ _=>yk) (qt (v:= .bool (decide ((b.aV:Int) < (d.aa.bi:Int)))) 13 rfl (λ _ _=>Gm rfl M rfl) (qn (Gs ?_)))))))))))))
 by_cases bO:(b.aV:Int) < (d.aa.bi:Int)
 refine jT (dT bO) (sr (An rfl (rt (tR (rs ?_)))))
 have mU:=jd.px [] [0] [10,13,14,5,6,7,8]
 obtain⟨rfl,rfl,rfl,rfl⟩:=iR (zj hr (show _=(0,T,ax.mk (bA.mk a.aa.bC a.aa.aT a.aa.bv a.aa.aL a.aa.aG (D4 a.aa.ah.ls) (D4 a.aa.ak.ls) (D4 d.aa.af.ls) d.aa.bi a.aa.aM a.aa.aH a.aa.aF) (D4 a.ag.ls),r) from et (ae aI) (et (ae aJ) (et (dY M) (ip bO))))).symm
 exact⟨aL,aM,X,ai,ak,j,p,O,aB,aC,F,u,B,K,L,E,rfl,mU,W,N,G,I⟩
 refine jF (dF bO) (sk (Gp (Gp ?_)))
 refine l5 15 [] (GD (GD GQ)) jd ?_
 intro qo mV
 refine qv 0 rfl rfl (qp g0 0 1 rfl (qp g0 0 2 rfl (ql 3 rfl 1 P0 rfl rfl rfl (qp bn 8 4 rfl (ql 5 rfl 0 C4 rfl rfl rfl ?_)))))
 have jf:=mV.pf [9]
 have oH:=zr 11 jf
 obtain⟨⟨bq,dP⟩,aN⟩:∃ q:Int × Bool,eY (ax.mk (bA.mk a.aa.bC a.aa.aT a.aa.bv a.aa.aL a.aa.aG (D4 a.aa.ah.ls) (D4 a.aa.ak.ls) (D4 d.aa.af.ls) d.aa.bi a.aa.aM a.aa.aH a.aa.aF) (D4 a.ag.ls)) b.aV=q:=⟨_,rfl⟩
 obtain⟨qw,kF,oI,kG,gH⟩:=G9 jf
 refine qd 6 rfl (GV Tryz.call77 rfl (mJ _ _ h (ax.mk (bA.mk a.aa.bC a.aa.aT a.aa.bv a.aa.aL a.aa.aG (D4 a.aa.ah.ls) (D4 a.aa.ak.ls) (D4 d.aa.af.ls) d.aa.bi a.aa.aM a.aa.aH a.aa.aF) (D4 a.ag.ls)) U Q j p O aB aC F u R S b.aV bq dP kF N (gH _ 10 _ rfl bQ) e8 (λ x9 h9=>⟨gH _ 11 _ rfl (bP (M5.2 ⟨x9,h9,b3⟩) bQ),dJ (φ:=λ _=>_) jf (i:=12) rfl (bP (M5.2 ⟨x9,h9,b3⟩) dN)⟩) f0 aN) ?_)
 rintro _ qx ⟨rfl,kH,gI,gJ⟩
 have mW:=kG _ _ kH
 replace gI:0<=bq/\bq<=(a.aa.ak.ls.length:Int):=gI
 replace gJ:Bool.toNat dP=0\/bq < (a.aa.ak.ls.length:Int):=gJ
 have bR:=mW.pb [0,10,11,12,13,14]
 refine⟨.inr ⟨_,bR⟩, ?_⟩
 refine qv 7 rfl rfl (qk (vI bq) 8 rfl (qk (.bool dP) 9 rfl (qa 10 rfl rfl (qa 11 rfl rfl (qn (Gs (sr (Mn rfl ?_))))))))
 rcases Kq (dP) with aQ | aQ
 have h87t:Bool.toNat dP=1:=by rw [aQ]; rfl
 refine jT aQ (sr (Mz rfl (Mz rfl (Kz (vP g0 0) (Kz (vP g0 0) (Lz (vP h 0) bR 1 P0 (Kz (vP h 0) (Kz (vP h 0) (Kz (vP h 6) (Lz (.slice j a.aa.ak.ls.length p) bR 9 C0 (fw (vJ (E0 bq)) (Gw (e:=bq) (Gv rfl) e8) ?_)))))))))))
 obtain⟨aa,dK⟩:=dI (ls:=O) (i:=E0 bq) bg.len f5 (bR.rds (i:=11) rfl) f2
 have gK:=fO N dK
 have oJ:aa.aJ.ls.length<=aa.aJ.c/\aa.aJ.ls.length<=9223372036854775807:=dJ bR (i:=12) rfl (φ:=λ _=>_) (bP (M5.2 ⟨aa,C1 dK,b3⟩) dN)
 have oK:aa.aJ.ls.length<=24:=JC (hs:=a.aa.ak.ls) f6 gK
 refine fw (.pointer (some ⟨ab j,ao j+(E0 bq) *2,none⟩)) (GI (kg) rfl rfl ((bR.rds (i:=11) rfl).addr (i:=E0 bq) e8) e8) (fw (.agg (bg.cells aa).toArray) (GH rfl (GJ (cs:=(bg.cells aa)) Tryz.isAgg60 Tryz.sizeOf60 ((bR.rds (i:=11) rfl).elem bg.len dK f5))) ?_)
 have mX:=bR.pf [1,2,3,9,5]
 obtain⟨⟨kI,eH⟩,eP⟩:∃ q:Int × bJ,ji T (dD.mk aa.aV (D4 aa.aJ.ls)) (ax.mk (bA.mk a.aa.bC a.aa.aT a.aa.bv a.aa.aL a.aa.aG (D4 a.aa.ah.ls) (D4 a.aa.ak.ls) (D4 d.aa.af.ls) d.aa.bi a.aa.aM a.aa.aH a.aa.aF) (D4 a.ag.ls)) g=q:=⟨_,rfl⟩
 obtain⟨qy,kJ,gL,kK,kL⟩:=IM mX
 refine cl Tryz.call78 (qO _ _ g0 T aL aM X bu aG ai ak (dD.mk aa.aV (D4 aa.aJ.ls)) aa.aJ.A aa.aJ.ls.length aa.aJ.c h (ax.mk (bA.mk a.aa.bC a.aa.aT a.aa.bv a.aa.aL a.aa.aG (D4 a.aa.ah.ls) (D4 a.aa.ak.ls) (D4 d.aa.af.ls) d.aa.bi a.aa.aM a.aa.aH a.aa.aF) (D4 a.ag.ls)) U Q j p aB aC F u S R g V J kI eH kJ W (gL _ cz) e8 rfl (kL _ 7 _ rfl (bP (M5.2 ⟨aa,C1 dK,b3⟩) bQ)) e8 (gL _ az) e8 f0 eP) ?_
 rintro _ oL ⟨kM,kN,kP,rfl,jg,eQ,eU⟩
 have gM:=kK _ _ jg
 have mY:=aW eQ
 have mZ:=zr 1 gM
 replace eU:eH.av.bE.ls.length<=T.av.bE.ls.length+1:=eU
 refine An rfl (rt (tR (rs ?_)))
 have kQ:=gM.px [] [5] [3,11,12,10,13,14,4,7,8,9]
 obtain⟨rfl,rfl,rfl,rfl⟩:=iR (zj hr (show _=(kI,bJ.mk (dH.mk (D4 eH.av.bE.ls) (D4 T.av.aI.ls) T.av.bU) (D4 T.bD.ls),ax.mk (bA.mk a.aa.bC a.aa.aT a.aa.bv a.aa.aL a.aa.aG (D4 a.aa.ah.ls) (D4 a.aa.ak.ls) (D4 d.aa.af.ls) d.aa.bi a.aa.aM a.aa.aH a.aa.aF) (D4 a.ag.ls),r) from et (ae aI) (et (ae aJ) (et (dY M) (et (iN bO) (et (ae aN) (et (ip aQ) (et (ae (bz gK)) (ae eP))))))))).symm
 exact⟨kM,kN,kP,ai,ak,j,p,O,aB,aC,F,u,B,K,L,E,rfl,kQ,eQ,N,G,I⟩
 have h87t:Bool.toNat dP=0:=by rw [aQ]; rfl
 refine jF aQ (sk (Gp ?_))
 refine l5 15 [] (GD GQ) bR ?_
 intro oM kR
 refine qv 0 rfl rfl (qp g0 0 1 rfl (qp g0 0 2 rfl (ql 3 rfl 1 P0 rfl rfl rfl (qp bn 8 4 rfl (ql 5 rfl 0 C4 rfl rfl rfl ?_)))))
 have dL:=kR.pf [9]
 have ng:=zr 13 dL
 obtain⟨⟨C,bC⟩,aF⟩:∃ q:Int × Bool,dh (ax.mk (bA.mk a.aa.bC a.aa.aT a.aa.bv a.aa.aL a.aa.aG (D4 a.aa.ah.ls) (D4 a.aa.ak.ls) (D4 d.aa.af.ls) d.aa.bi a.aa.aM a.aa.aH a.aa.aF) (D4 a.ag.ls)) b.aV=q:=⟨_,rfl⟩
 obtain⟨oN,jh,ni,jk,dn⟩:=G9 dL
 refine qd 6 rfl (GV Tryz.call79 rfl (iY _ _ h (ax.mk (bA.mk a.aa.bC a.aa.aT a.aa.bv a.aa.aL a.aa.aG (D4 a.aa.ah.ls) (D4 a.aa.ak.ls) (D4 d.aa.af.ls) d.aa.bi a.aa.aM a.aa.aH a.aa.aF) (D4 a.ag.ls)) U Q j p aB aC F u B R S b.aV C bC jh G (dn _ 12 _ rfl bQ) e8 (λ x9 h9=>⟨dn _ 13 _ rfl (bP (M5.2 ⟨x9,h9,b3⟩) bQ),dJ (φ:=λ _=>_) dL (i:=14) rfl (bP (M5.2 ⟨x9,h9,b3⟩) dN),dn _ 13 _ rfl (bP (M5.2 ⟨x9,h9, .tail _ b3⟩) bQ),dJ (φ:=λ _=>_) dL (i:=14) rfl (bP (M5.2 ⟨x9,h9, .tail _ b3⟩) dN)⟩) f0 aF) ?_)
 rintro _ oO ⟨rfl,jl,eX,eZ⟩
 have kS:=jk _ _ jl
 replace eX:0<=C/\C<=(a.ag.ls.length:Int):=eX
 replace eZ:Bool.toNat bC=0\/C < (a.ag.ls.length:Int):=eZ
 have fe:=kS.pb [0,10,11,12,13,14]
 refine⟨.inr ⟨_,fe⟩, ?_⟩
 refine qv 7 rfl rfl (qk (vI C) 8 rfl (qk (.bool bC) 9 rfl (qa 10 rfl rfl (qa 11 rfl rfl (qn (Gs (Gp (sr (Mn rfl ?_)))))))))
 rcases Kq (bC) with af | af
 have h135t:Bool.toNat bC=1:=by rw [af]; rfl
 refine jT af (sr (An rfl (rt (tR (rs ?_)))))
 have kT:=fe.px [] [0] [10,13,14,5,6,7,8]
 obtain⟨rfl,rfl,rfl,rfl⟩:=iR (zj hr (show _=(0,T,ax.mk (bA.mk a.aa.bC a.aa.aT a.aa.bv a.aa.aL a.aa.aG (D4 a.aa.ah.ls) (D4 a.aa.ak.ls) (D4 d.aa.af.ls) d.aa.bi a.aa.aM a.aa.aH a.aa.aF) (D4 a.ag.ls),r) from et (ae aI) (et (ae aJ) (et (dY M) (et (iN bO) (et (ae aN) (et (dY aQ) (et (ae aF) (ip af))))))))).symm
 exact⟨aL,aM,X,ai,ak,j,p,O,aB,aC,F,u,B,K,L,E,rfl,kT,W,N,G,I⟩
 have h135t:Bool.toNat bC=0:=by rw [af]; rfl
 refine jF af (sk (Gp (Gp ?_)))
 refine l5 15 [] (GD (GD GQ)) fe ?_
 intro oP kU
 refine qv 0 rfl rfl (qp g0 0 1 rfl (qp g0 0 2 rfl (ql 3 rfl 1 P0 rfl rfl rfl (qt (v:= .agg (lN b aH au bv aS bB aT).toArray) 4 rfl (λ _ ⟨_,H9⟩=>GH rfl (GJ (cs:=(lN b aH au bv aS bB aT)) G0 G1 ((H9.cls (i:=0) rfl).lit (k:=0) (m:=21) rfl))) ?_))))
 have kV:=kU.pf [9]
 obtain⟨gN,aK⟩:∃ q,kv (ax.mk (bA.mk a.aa.bC a.aa.aT a.aa.bv a.aa.aL a.aa.aG (D4 a.aa.ah.ls) (D4 a.aa.ak.ls) (D4 d.aa.af.ls) d.aa.bi a.aa.aM a.aa.aH a.aa.aF) (D4 a.ag.ls)) b=q:=⟨_,rfl⟩
 obtain⟨oQ,jm,aU,jo,nu⟩:=G9 kV
 refine qd 5 rfl (GV Tryz.call80 rfl (tV _ _ h (ax.mk (bA.mk a.aa.bC a.aa.aT a.aa.bv a.aa.aL a.aa.aG (D4 a.aa.ah.ls) (D4 a.aa.ak.ls) (D4 d.aa.af.ls) d.aa.bi a.aa.aM a.aa.aH a.aa.aF) (D4 a.ag.ls)) U Q j p aB aC F u R S b aH b.aJ.ls.length au bv b.aQ.ls.length aS dE bB b.ah.ls.length aT gN jm (aU _ dU) e8 rfl (aU _ cK) e8 dR rfl (aU _ iX) e8 (λ x9 h9=>⟨aU _ (dS x9 h9).1,(dS x9 h9).2⟩) rfl (aU _ ja) e8 f0 aK) ?_)
 rintro _ oU ⟨rfl,jq⟩
 have kW:=jo _ _ jq
 have bU:=kW.pb [0,10,11,12,13,14]
 refine⟨.inr ⟨_,bU⟩, ?_⟩
 refine qn (Gs ?_)
 rcases Kq (gN) with aO | aO
 refine jT aO (sr (Mz rfl (Kz (vP bn 8) (Lz (vU b.aV) bU 0 C4 (Kz (.agg (ic 4 0 0 0 4 0 0 0 b.aV 0 0 0 0 0 0 false [] [] none 0 0 none 0 0 none 0 0).toArray) ?_)))))
 refine WL.do rfl (GV Tryz.call81 rfl ?_ (λ _ _ k=>k))
 refine cb Tryz.func81 ?_
 refine sr ?_
 refine bW (ic 4 0 0 0 4 0 0 0 b.aV 0 0 0 0 0 0 false [] [] none 0 0 none 0 0 none 0 0) 47 bU ?_
 intro fo oV fq
 refine ns (Mz rfl (Kz (vP g0 0) (Kz (vP g0 0) (Lz (vP h 0) fq 2 P0 (Kz (vP h 0) (Kz (vP h 0) (Kz (vP h 0) (Lz (vI a.aa.bC) fq 10 Tryz.isAgg3 (Kz (vP fo 1) ?_)))))))))
 refine bY [vI a.aa.bC] 1 fq Tryz.sizeOf3 ?_
 intro oW gP
 refine ns (Kz (vP fo 18) (Lz (.slice none 0 0) gP 0 C6 ?_))
 obtain⟨oZ,jr,ny,jv,nz⟩:=Gr gP
 refine cl R8 (iF _ _ none 0 0 [] [] jr (λ _ _=>bM.nil _ _ _) rfl i5 rfl) ?_
 rintro _ o5 ⟨Y,Z,rfl,jw⟩
 have gQ:=jv _ _ jw
 have nA:=zr 0 gQ
 refine Kz (vP fo 18) ?_
 have kX:=gQ.pf [1]
 refine bY [.slice Y 0 Z] 18 kX Tryz.sizeOf44 ?_
 intro o6 kY
 refine nt ?_
 refine l5 17 [8,12] GQ kY ?_
 intro o7 kZ
 refine Hf (v:=vP g0 0) 0 rfl e9 (λ _=>Gv rfl) (qv 1 rfl rfl (qp g0 0 2 rfl (qp g0 1 3 rfl (qp g0 1 4 rfl (ql 5 rfl 3 Tryz.isAgg50 rfl rfl rfl (qt (v:= .agg (ic 4 a.aa.bC 0 0 4 0 0 0 b.aV 0 0 0 0 0 0 false [] [] Y 0 Z none 0 0 none 0 0).toArray) 6 rfl (λ _ ⟨_,H9⟩=>GH rfl (GJ (cs:=(ic 4 a.aa.bC 0 0 4 0 0 0 b.aV 0 0 0 0 0 0 false [] [] Y 0 Z none 0 0 none 0 0)) G0 G1 ((H9.cls (i:=0) rfl).lit (k:=0) (m:=21) rfl))) ?_))))))
 refine qd 7 rfl (Hw (cs:=(ic 4 a.aa.bC 0 0 4 0 0 0 b.aV 0 0 0 0 0 0 false [] [] Y 0 Z none 0 0 none 0 0)) (t:=47) (sz:=21) (m:=1) kZ rfl rfl (λ _=>by kernel_rfl) rfl f5 ?_)
 intro lc fu fA
 replace fA:=Ha (y:=row lc 1 1 (q0 bV.cells ([(bV.mk 4 a.aa.bC 0 0 4 0 0 0 b.aV 0 0 0 0 0 0 false (aj.mk [] []) (L3 Y Z []) (L3 none 0 []) (L3 none 0 []))])) 47 21) rfl fA
 have gT:=fA.pb [0]
 refine⟨.inr ⟨_,gT⟩, ?_⟩
 have lg:Own w D fu (sepL (q0 G8 [])::_):=gT.sepNil
 have lh:Own w D fu (row none 0 0 (q0 aP.cells []) 70 3::_):=lg.free (bX 70 3)
 have ll:Own w D fu (row none 0 0 (q0 bL.cells []) 83 2::_):=lh.free (bX 83 2)
 have gU:=ll.pf [7,8,4,1]
 refine qd 8 rfl (GZ (k:=T.av.bE.ls.length) (m:=1) (tL) gU rfl rfl (eT P2 (gU.rds (i:=20) rfl) (cB bV.one ([(bV.mk 4 a.aa.bC 0 0 4 0 0 0 b.aV 0 0 0 0 0 0 false (aj.mk [] []) (L3 Y Z []) (L3 none 0 []) (L3 none 0 []))]))) rfl e8 (s:=q5 (T.av.bE.ls++ [(dM.mk 4 a.aa.bC 0 0 4 0 0 0 b.aV 0 0 0 0 0 0 false (aj.mk [] []) (D4 []) (D4 []) (D4 []))])) f4 (t2).symm ?_)
 intro gV gW lm lq
 have lu:=lq.pf [1,2,3,4,5]
 have lv:Own w D lm (sepL (q0 Hl (X++ [(bV.mk 4 a.aa.bC 0 0 4 0 0 0 b.aV 0 0 0 0 0 0 false (aj.mk [] []) (L3 Y Z []) (L3 none 0 []) (L3 none 0 []))]))::_):=lu.sepAdd (L2:= [row Y 0 Z (q0 aY.cells []) 68 6,row none 0 0 (q0 aP.cells []) 70 3,row none 0 0 (q0 bL.cells []) 83 2,sepL (q0 G8 [])]) (t2 (f:=Hl) (xs:=X) (ys:= [(bV.mk 4 a.aa.bC 0 0 4 0 0 0 b.aV 0 0 0 0 0 0 false (aj.mk [] []) (L3 Y Z []) (L3 none 0 []) (L3 none 0 []))])).symm
 have nC:q5 (T.av.bE.ls++ [(dM.mk 4 a.aa.bC 0 0 4 0 0 0 b.aV 0 0 0 0 0 0 false (aj.mk [] []) (D4 []) (D4 []) (D4 []))])=T.av.bE.ls.length+1:=by simp only [m8,q6,H2]
 have nD:=aW (jy (es:= [(bV.mk 4 a.aa.bC 0 0 4 0 0 0 b.aV 0 0 0 0 0 0 false (aj.mk [] []) (L3 Y Z []) (L3 none 0 []) (L3 none 0 []))]) (ms:= [(dM.mk 4 a.aa.bC 0 0 4 0 0 0 b.aV 0 0 0 0 0 0 false (aj.mk [] []) (D4 []) (D4 []) (D4 []))]) W rfl)
 refine⟨.inl e9, ?_⟩
 refine Hf (v:=vP g0 0) 9 rfl e9 (λ _=>yk) (Hf (v:=vP g0 1) 10 rfl e9 (λ _=>yk) (Hf (v:=vP g0 1) 11 rfl e9 (λ _=>yk) ?_))
 have lw:=lv.pf [4]
 refine qe 12 rfl (Do.store (vs:= [.slice gV (q5 (T.av.bE.ls++ [(dM.mk 4 a.aa.bC 0 0 4 0 0 0 b.aV 0 0 0 0 0 0 false (aj.mk [] []) (D4 []) (D4 []) (D4 []))])) gW]) (o:=1) lw rfl rfl Tryz.sizeOf50 rfl rfl rfl rfl ?_)
 intro o8 lC
 refine⟨.inl e9, ?_⟩
 refine qn (Hq (res0 rfl) (nt (Gp ?_)))
 have lD:=lC.px [] [3,16] []
 refine Gq (An rfl (rt (tR (rs ?_))))
 have lF:=lD.px [0,2] [3] [10,13,14,5,6,7,8]
 obtain⟨rfl,rfl,rfl,rfl⟩:=iR (zj hr (show _=(0,bJ.mk (dH.mk (D4 (T.av.bE.ls++ [(dM.mk 4 a.aa.bC 0 0 4 0 0 0 b.aV 0 0 0 0 0 0 false (aj.mk [] []) (D4 []) (D4 []) (D4 []))])) (D4 T.av.aI.ls) T.av.bU) (D4 T.bD.ls),ax.mk (bA.mk a.aa.bC a.aa.aT a.aa.bv a.aa.aL a.aa.aG (D4 a.aa.ah.ls) (D4 a.aa.ak.ls) (D4 d.aa.af.ls) d.aa.bi a.aa.aM a.aa.aH a.aa.aF) (D4 a.ag.ls),r) from et (ae aI) (et (ae aJ) (et (dY M) (et (iN bO) (et (ae aN) (et (dY aQ) (et (ae aF) (et (dY af) (et (ae aK) (ip aO))))))))))).symm
 exact⟨gV,gW,(X++ [(bV.mk 4 a.aa.bC 0 0 4 0 0 0 b.aV 0 0 0 0 0 0 false (aj.mk [] []) (L3 Y Z []) (L3 none 0 []) (L3 none 0 []))]),ai,ak,j,p,O,aB,aC,F,u,B,K,L,E,rfl,lF,(jy (es:= [(bV.mk 4 a.aa.bC 0 0 4 0 0 0 b.aV 0 0 0 0 0 0 false (aj.mk [] []) (L3 Y Z []) (L3 none 0 []) (L3 none 0 []))]) (ms:= [(dM.mk 4 a.aa.bC 0 0 4 0 0 0 b.aV 0 0 0 0 0 0 false (aj.mk [] []) (D4 []) (D4 []) (D4 []))]) W rfl),N,G,I⟩
 refine jF aO (sk (sr (Kz (vP bn 18) (Lz (.slice aH b.aJ.ls.length au) bU 0 C6 ?_))))
 obtain⟨⟨P,bD⟩,aV⟩:∃ q:(List aD) × Int,ry b.aJ.ls=q:=⟨_,rfl⟩
 obtain⟨o9,jB,jC,jD,nE⟩:=Gr bU
 refine cl Tryz.call37 (AU _ _ aH b.aJ.ls.length au b.aJ.ls P bD jB (jC _ cK) rfl e8 aV) ?_
 rintro _ pg ⟨aX,bf,rfl,jE⟩
 have fB:=jD _ _ jE
 have nG:=zr 0 fB
 have nH:P.length<=b.aJ.ls.length:=zm aV
 refine Mz rfl (Kz (.slice aX P.length bf) (Kz (vI bD) (Az rfl (An rfl (Gp (sr (Mz rfl (fw (.bool (decide (¬ (bD=0)))) (GN (e:= !(decide (bD=0))) yk decide_not.symm) (nt ?_)))))))))
 by_cases bZ:bD=0
 refine jF (dF (Ko bZ)) (sk (Gp ?_))
 have lH:=fB.pf [1,2,6,7,10]
 refine Ec [23] (GD GQ) lH ?_
 intro pq lI
 refine qv 0 rfl rfl (qp g0 0 1 rfl (qp g0 0 2 rfl (ql 3 rfl 1 P0 rfl rfl rfl (qv 4 rfl rfl (qp g0 0 5 rfl (qp g0 0 6 rfl (ql 7 rfl 1 P0 rfl rfl rfl (qp h 0 8 rfl (qp h 18 9 rfl (ql 10 rfl 4 Tryz.isAgg77 rfl rfl rfl (qv 11 rfl rfl (qp bn 8 12 rfl (ql 13 rfl 0 C4 rfl rfl rfl (qp bn 18 14 rfl (ql 15 rfl 0 C6 rfl rfl rfl (qv 17 rfl rfl ?_))))))))))))))))
 obtain⟨pu,jG,jH,jI,nI⟩:=Gr lI
 refine qd 16 rfl (GV R8 rfl (iF _ _ aH b.aJ.ls.length au b.aJ.ls b.aJ.ls jG (jH _ cK) rfl e8 rfl) ?_)
 rintro _ pz ⟨bE,bF,rfl,jJ⟩
 have gY:=jI _ _ jJ
 have nJ:=zr 0 gY
 have gZ:=gY.pf [1,2,3,4,5]
 refine⟨.inr ⟨_,gZ⟩, ?_⟩
 refine qk (.agg #[vU b.aV, .slice bE b.aJ.ls.length bF, .slice aX P.length bf,vI 0]) 18 rfl ?_
 refine qd 19 rfl (Il (cs:= [vU b.aV, .slice bE b.aJ.ls.length bF, .slice aX P.length bf,vI 0]) (t:=99) (sz:=4) (m:=1) gZ rfl rfl (λ _=>by kernel_rfl) rfl ?_)
 intro ib pE fC
 replace fC:=Ha (y:=lG ib 1 (q0 aR.cells ([(aR.mk b.aV (L3 bE bF b.aJ.ls) (L3 aX bf P) 0)])) 99 4) rfl fC
 have ig:=fC.pf [1,2,3,4,5]
 refine⟨.inr ⟨_,ig⟩, ?_⟩
 have lJ:=ig.pf [16,5,17,6,7]
 obtain⟨pF,jK,nK,jL,nL⟩:=IM lJ
 refine qd 20 rfl (GV Tryz.call82 rfl (xE _ _ F a.ag.ls.length u B a.ag.ls C (E0 C) ib (aR.mk b.aV (L3 bE bF b.aJ.ls) (L3 aX bf P) 0) (bG.mk b.aV (D4 b.aJ.ls) (D4 P) 0) jK e8 G rfl e8 e8 e8) ?_)
 rintro _ pG ⟨ik,il,rfl,jM⟩
 have lK:=jL _ _ jM
 have nM:q5 (t1 (E0 C) B++((aR.mk b.aV (L3 bE bF b.aJ.ls) (L3 aX bf P) 0)::r7 (E0 C) B))=q5 (t1 (E0 C) a.ag.ls++((bG.mk b.aV (D4 b.aJ.ls) (D4 P) 0)::r7 (E0 C) a.ag.ls)):=by exact aW (jA (z:=(bG.mk b.aV (D4 b.aJ.ls) (D4 P) 0)) G rfl)
 have nN:q5 (t1 (E0 C) a.ag.ls++((bG.mk b.aV (D4 b.aJ.ls) (D4 P) 0)::r7 (E0 C) a.ag.ls))=a.ag.ls.length+1:=by simp only [m8,m6,q6,m7]; omega
 have iq:=lK.pf [2,3,4,5,6]
 refine⟨.inr ⟨_,iq⟩, ?_⟩
 refine qp h 0 21 rfl (qp h 18 22 rfl ?_)
 have lL:=iq.pf [4]
 refine qe 23 rfl (Do.store (vs:= [.slice ik (q5 (t1 (E0 C) a.ag.ls++((bG.mk b.aV (D4 b.aJ.ls) (D4 P) 0)::r7 (E0 C) a.ag.ls))) il]) (o:=18) lL rfl rfl Tryz.sizeOf77 rfl rfl rfl rfl ?_)
 intro pI iw
 refine⟨.inl e9, ?_⟩
 refine qn (Gs (Gp (sr (Mz rfl (Kz (vP bn 8) (Lz (vU b.aV) iw 1 C4 ?_))))))
 obtain⟨dw,dx⟩:=Dt (m:=(ax.mk (bA.mk a.aa.bC a.aa.aT a.aa.bv a.aa.aL a.aa.aG (D4 a.aa.ah.ls) (D4 a.aa.ak.ls) (D4 d.aa.af.ls) d.aa.bi a.aa.aM a.aa.aH a.aa.aF) (D4 a.ag.ls))) (rs:=r.ai.ls) (o:=b.aJ.ls) (l:=P) f6 f6 aN aQ aF af (yD aK aO f9 f9 f9).1 e8 e8
 replace dw:Tk (t1 (E0 C) a.ag.ls++((bG.mk b.aV (D4 b.aJ.ls) (D4 P) 0)::r7 (E0 C) a.ag.ls)) a.aa.ak.ls r.ai.ls:=dw
 replace dx:Gx b.aV (t1 (E0 C) a.ag.ls++((bG.mk b.aV (D4 b.aJ.ls) (D4 P) 0)::r7 (E0 C) a.ag.ls)):=dx
 have lM:=iw.pb [0,13,14,5,6,3,4,10,11,1,12]
 obtain⟨⟨cu,av,ag,bi⟩,bT⟩:∃ q:Int × bJ × ax × aZ,gX T b.aV (ax.mk (bA.mk a.aa.bC a.aa.aT a.aa.bv a.aa.aL a.aa.aG (D4 a.aa.ah.ls) (D4 a.aa.ak.ls) (D4 d.aa.af.ls) d.aa.bi a.aa.aM a.aa.aH a.aa.aF) (D4 (t1 (E0 C) a.ag.ls++((bG.mk b.aV (D4 b.aJ.ls) (D4 P) 0)::r7 (E0 C) a.ag.ls)))) g r=q:=⟨_,rfl⟩
 obtain⟨pJ,jN,fD,jO,nO⟩:=Ik lM
 refine cl Tryz.call83 (pM _ _ g0 T aL aM X bu aG ai ak b.aV h (ax.mk (bA.mk a.aa.bC a.aa.aT a.aa.bv a.aa.aL a.aa.aG (D4 a.aa.ah.ls) (D4 a.aa.ak.ls) (D4 d.aa.af.ls) d.aa.bi a.aa.aM a.aa.aH a.aa.aF) (D4 (t1 (E0 C) a.ag.ls++((bG.mk b.aV (D4 b.aJ.ls) (D4 P) 0)::r7 (E0 C) a.ag.ls)))) U Q j p O aB aC ik il (t1 (E0 C) B++((aR.mk b.aV (L3 bE bF b.aJ.ls) (L3 aX bf P) 0)::r7 (E0 C) B)) R g V J S r K L E cu av ag bi jN W (fD _ cz) e8 N (jA (z:=(bG.mk b.aV (D4 b.aJ.ls) (D4 P) 0)) G rfl) (fD _ az) e8 I f6 (by first | omega | exact Tk.n f6) (by first | omega | exact Tk.rows f6) f0 bT) ?_
 rintro _ pK ⟨iy,iA,iB,iC,iD,iE,iG,iH,iI,iJ,iK,iL,iM,iO,rfl,jR,dz,dA,dB,dC⟩
 have bH:=jO _ _ jR
 have nP:=aW dz
 have nQ:=aW dA
 have nR:=aW dB
 have nS:=aW dC
 have nT:=zr 1 bH
 have nU:=bH.rowCQ (i:=3) rfl
 have nV:=zr 5 bH
 have nW:=zr 7 bH
 have nX:=zr 11 bH
 obtain⟨fF,fG,fH,fI,fJ⟩:=goes dw dx i8 bT
 replace fF:Tk ag.ag.ls ag.aa.ak.ls bi.ai.ls:=fF
 replace fG:Gt ag.ag.ls:=fG
 replace fH:Li av.bD.ls bi.ai.ls:=fH
 replace fI:av.av.bE.ls.length<=T.av.bE.ls.length+1:=fI
 replace fJ:jQ av.bD.ls ag.ag.ls bi.ai.ls<=302:=fJ
 refine An rfl (Gp ?_)
 have iP:=bH.px [] [13] []
 refine Gq (Mz rfl (fw (.bool (decide (¬ (cu=0)))) (GN (e:= !(decide (cu=0))) yk decide_not.symm) (nt ?_)))
 by_cases dO:cu=0
 refine jF (dF (Ko dO)) (sk (sr (Mz rfl ?_)))
 obtain⟨⟨iQ,fK,fM,iT⟩,fP⟩:∃ q:Int × bJ × ax × aZ,fE (bJ.mk (dH.mk (D4 av.av.bE.ls) (D4 T.av.aI.ls) T.av.bU) (D4 av.bD.ls)) (ax.mk (bA.mk a.aa.bC a.aa.aT a.aa.bv a.aa.aL a.aa.aG (D4 a.aa.ah.ls) (D4 ag.aa.ak.ls) (D4 d.aa.af.ls) d.aa.bi a.aa.aM a.aa.aH a.aa.aF) (D4 ag.ag.ls)) g bi=q:=⟨_,rfl⟩
 obtain⟨pO,jS,fQ,jU,nY⟩:=Ik iP
 refine cl R9 (nk _ _ g0 (bJ.mk (dH.mk (D4 av.av.bE.ls) (D4 T.av.aI.ls) T.av.bU) (D4 av.bD.ls)) iy iA iB bu aG iC iD h (ax.mk (bA.mk a.aa.bC a.aa.aT a.aa.bv a.aa.aL a.aa.aG (D4 a.aa.ah.ls) (D4 ag.aa.ak.ls) (D4 d.aa.af.ls) d.aa.bi a.aa.aM a.aa.aH a.aa.aF) (D4 ag.ag.ls)) U Q iE iG iH aB aC iI iJ iK R g V J S bi iL iM iO iQ fK fM iT jS dz (fQ _ cz) e8 dA dB (fQ _ az) e8 dC f6 f6 f6 (by first | omega | exact Tk.n f6) (by first | omega | exact Tk.rows f6) f0 fP) ?_
 rintro _ pQ ⟨lQ,lS,lT,lU,lV,lW,lX,lY,lZ,l6,l7,l8,l9,ma,rfl,jV,fT,fU,fV,fZ⟩
 have bI:=jU _ _ jV
 have nZ:=aW fT
 have og:=aW fU
 have oh:=aW fV
 have ol:=aW fZ
 have om:=zr 1 bI
 have oo:=bI.rowCQ (i:=3) rfl
 have oq:=zr 5 bI
 have ou:=zr 7 bI
 have ow:=zr 11 bI
 refine An rfl (rt (rs ?_))
 have mf:=bI.pb [7,8,9,10,11,12]
 obtain⟨rfl,rfl,rfl,rfl⟩:=iR (zj hr (show _=(iQ,bJ.mk (dH.mk (D4 fK.av.bE.ls) (D4 T.av.aI.ls) T.av.bU) (D4 fK.bD.ls),ax.mk (bA.mk a.aa.bC a.aa.aT a.aa.bv a.aa.aL a.aa.aG (D4 a.aa.ah.ls) (D4 fM.aa.ak.ls) (D4 d.aa.af.ls) d.aa.bi a.aa.aM a.aa.aH a.aa.aF) (D4 fM.ag.ls),iT) from et (ae aI) (et (ae aJ) (et (dY M) (et (iN bO) (et (ae aN) (et (dY aQ) (et (ae aF) (et (dY af) (et (ae aK) (et (dY aO) (et (ae aV) (et (ip bZ) (et (ae bT) (et (ip dO) (ae fP))))))))))))))))
 exact⟨lQ,lS,lT,lU,lV,lW,lX,lY,aB,aC,lZ,l6,l7,l8,l9,ma,rfl,mf,fT,fU,fV,fZ⟩
 refine jT (dT dO) (sr (Mz rfl (An rfl (rt (tR (rs ?_))))))
 have mg:=iP.pb [7,8,9,10,11,12]
 obtain⟨rfl,rfl,rfl,rfl⟩:=iR (zj hr (show _=(cu,bJ.mk (dH.mk (D4 av.av.bE.ls) (D4 T.av.aI.ls) T.av.bU) (D4 av.bD.ls),ax.mk (bA.mk a.aa.bC a.aa.aT a.aa.bv a.aa.aL a.aa.aG (D4 a.aa.ah.ls) (D4 ag.aa.ak.ls) (D4 d.aa.af.ls) d.aa.bi a.aa.aM a.aa.aH a.aa.aF) (D4 ag.ag.ls),bi) from et (ae aI) (et (ae aJ) (et (dY M) (et (iN bO) (et (ae aN) (et (dY aQ) (et (ae aF) (et (dY af) (et (ae aK) (et (dY aO) (et (ae aV) (et (ip bZ) (et (ae bT) (iN dO)))))))))))))))
 exact⟨iy,iA,iB,iC,iD,iE,iG,iH,aB,aC,iI,iJ,iK,iL,iM,iO,rfl,mg,dz,dA,dB,dC⟩
 refine jT (dT bZ) (sr (Mz rfl (An rfl (rt (tR (rs ?_))))))
 have mh:=fB.px [] [0,1] [11,14,15,6,7,8,9]
 obtain⟨rfl,rfl,rfl,rfl⟩:=iR (zj hr (show _=(bD,T,ax.mk (bA.mk a.aa.bC a.aa.aT a.aa.bv a.aa.aL a.aa.aG (D4 a.aa.ah.ls) (D4 a.aa.ak.ls) (D4 d.aa.af.ls) d.aa.bi a.aa.aM a.aa.aH a.aa.aF) (D4 a.ag.ls),r) from et (ae aI) (et (ae aJ) (et (dY M) (et (iN bO) (et (ae aN) (et (dY aQ) (et (ae aF) (et (dY af) (et (ae aK) (et (dY aO) (et (ae aV) (iN bZ))))))))))))).symm
 exact⟨aL,aM,X,ai,ak,j,p,O,aB,aC,F,u,B,K,L,E,rfl,mh,W,N,G,I⟩
def j3 (e:bJ) (g:dM) (a:ax) (l:StoreT) (f:aZ):Int × bJ × ax × aZ:=
 bnd (eY a g.aV) λ b=>bnd (dh a g.aV) λ q=>if b.2=true then bnd (List.getD a.aa.ak.ls (E0 b.1) default) λ o=>bnd (if g.fZ=true then bnd (kW (bJ.mk (dH.mk (D4 (e.av.bE.ls++ [(dM.mk 6 a.aa.bC 0 0 0 0 0 0 g.aV 0 0 0 0 0 0 false (aj.mk [] []) (D4 []) (D4 []) (D4 []))])) (D4 e.av.aI.ls) e.av.bU) (D4 e.bD.ls)) o.aJ.ls (ax.mk (bA.mk a.aa.bC a.aa.aT a.aa.bv a.aa.aL a.aa.aG (D4 a.aa.ah.ls) (D4 (t1 (E0 b.1) a.aa.ak.ls++r7 ((E0 b.1)+1) a.aa.ak.ls)) (D4 a.aa.af.ls) a.aa.bi a.aa.aM a.aa.aH a.aa.aF) (D4 a.ag.ls))) λ p=>p.av.aI.ls else e.av.aI.ls) λ sJrbbtbJ=>bnd (eU (ax.mk (bA.mk a.aa.bC a.aa.aT a.aa.bv a.aa.aL a.aa.aG (D4 a.aa.ah.ls) (D4 (t1 (E0 b.1) a.aa.ak.ls++r7 ((E0 b.1)+1) a.aa.ak.ls)) (D4 a.aa.af.ls) a.aa.bi a.aa.aM a.aa.aH a.aa.aF) (D4 a.ag.ls)) g.aV) λ h=>bnd (il (ax.mk (bA.mk a.aa.bC a.aa.aT a.aa.bv a.aa.aL a.aa.aG (D4 a.aa.ah.ls) (D4 (t1 (E0 b.1) a.aa.ak.ls++r7 ((E0 b.1)+1) a.aa.ak.ls)) (D4 a.aa.af.ls) a.aa.bi a.aa.aM a.aa.aH a.aa.aF) (D4 h.ag.ls)) g.aV) λ i=>bnd (gu (bJ.mk (dH.mk (D4 (e.av.bE.ls++ [(dM.mk 6 a.aa.bC 0 0 0 0 0 0 g.aV 0 0 0 0 0 0 false (aj.mk [] []) (D4 []) (D4 []) (D4 []))])) (D4 sJrbbtbJ) e.av.bU) (D4 e.bD.ls)) g.aV (ax.mk (bA.mk a.aa.bC a.aa.aT a.aa.bv a.aa.aL a.aa.aG (D4 a.aa.ah.ls) (D4 (t1 (E0 b.1) a.aa.ak.ls++r7 ((E0 b.1)+1) a.aa.ak.ls)) (D4 i.aa.af.ls) a.aa.bi a.aa.aM a.aa.aH a.aa.aF) (D4 h.ag.ls)) f) λ m=>bnd (fE (bJ.mk (dH.mk (D4 (e.av.bE.ls++ [(dM.mk 6 a.aa.bC 0 0 0 0 0 0 g.aV 0 0 0 0 0 0 false (aj.mk [] []) (D4 []) (D4 []) (D4 []))])) (D4 sJrbbtbJ) e.av.bU) (D4 m.1.bD.ls)) (ax.mk (bA.mk a.aa.bC a.aa.aT a.aa.bv a.aa.aL a.aa.aG (D4 a.aa.ah.ls) (D4 (t1 (E0 b.1) a.aa.ak.ls++r7 ((E0 b.1)+1) a.aa.ak.ls)) (D4 i.aa.af.ls) a.aa.bi a.aa.aM a.aa.aH a.aa.aF) (D4 h.ag.ls)) l m.2) λ c=>(c.1,bJ.mk (dH.mk (D4 c.2.1.av.bE.ls) (D4 sJrbbtbJ) e.av.bU) (D4 c.2.1.bD.ls),ax.mk (bA.mk a.aa.bC a.aa.aT a.aa.bv a.aa.aL a.aa.aG (D4 a.aa.ah.ls) (D4 c.2.2.1.aa.ak.ls) (D4 i.aa.af.ls) a.aa.bi a.aa.aM a.aa.aH a.aa.aF) (D4 c.2.2.1.ag.ls),c.2.2.2) else if q.2=true then bnd (eU a g.aV) λ j=>bnd (il (ax.mk a.aa (D4 j.ag.ls)) g.aV) λ k=>bnd (gu (bJ.mk (dH.mk (D4 (e.av.bE.ls++ [(dM.mk 6 a.aa.bC 0 0 0 0 0 0 g.aV 0 0 0 0 0 0 false (aj.mk [] []) (D4 []) (D4 []) (D4 []))])) (D4 e.av.aI.ls) e.av.bU) (D4 e.bD.ls)) g.aV (ax.mk (bA.mk a.aa.bC a.aa.aT a.aa.bv a.aa.aL a.aa.aG (D4 a.aa.ah.ls) (D4 a.aa.ak.ls) (D4 k.aa.af.ls) a.aa.bi a.aa.aM a.aa.aH a.aa.aF) (D4 j.ag.ls)) f) λ n=>bnd (fE (bJ.mk (dH.mk (D4 (e.av.bE.ls++ [(dM.mk 6 a.aa.bC 0 0 0 0 0 0 g.aV 0 0 0 0 0 0 false (aj.mk [] []) (D4 []) (D4 []) (D4 []))])) (D4 e.av.aI.ls) e.av.bU) (D4 n.1.bD.ls)) (ax.mk (bA.mk a.aa.bC a.aa.aT a.aa.bv a.aa.aL a.aa.aG (D4 a.aa.ah.ls) (D4 a.aa.ak.ls) (D4 k.aa.af.ls) a.aa.bi a.aa.aM a.aa.aH a.aa.aF) (D4 j.ag.ls)) l n.2) λ d=>(d.1,bJ.mk (dH.mk (D4 d.2.1.av.bE.ls) (D4 e.av.aI.ls) e.av.bU) (D4 d.2.1.bD.ls),ax.mk (bA.mk a.aa.bC a.aa.aT a.aa.bv a.aa.aL a.aa.aG (D4 a.aa.ah.ls) (D4 d.2.2.1.aa.ak.ls) (D4 k.aa.af.ls) a.aa.bi a.aa.aM a.aa.aH a.aa.aF) (D4 d.2.2.1.ag.ls),d.2.2.2) else(0,bJ.mk (dH.mk (D4 (e.av.bE.ls++ [(dM.mk 6 a.aa.bC 0 0 0 0 0 0 g.aV 0 0 0 0 0 0 false (aj.mk [] []) (D4 []) (D4 []) (D4 []))])) (D4 e.av.aI.ls) e.av.bU) (D4 e.bD.ls),a,f)
theorem vG (w D V) (u:bJ) (gq gy Z ak ah au av) (d:dM) (bG gz bH bI gB bK bT bN gD bO g) (a:ax) (z B r E p F G O L R h) (j:StoreT) (S I l) (C:aZ) (M N J r0) (r1:bJ) (r2:ax) (r3:aZ) (H:Own w D w [blk V [.pointer (some ⟨g,0,none⟩), .slice gq u.av.bE.ls.length gy, .slice ak u.av.aI.ls.length ah, .bool u.av.bU, .slice au u.bD.ls.length av] 92,row gq u.av.bE.ls.length gy (q0 bV.cells Z) 47 21,sepL (q0 Hl Z),row ak u.av.aI.ls.length ah (q0 aY.cells u.av.aI.ls) 68 6,je au u.bD.ls.length av (q0 di.cells u.bD.ls) 216 2,blk g [.int .i64 a.aa.bC, .int .u64 ((a.aa.aT:Nat):Int), .int .u64 ((a.aa.bv:Nat):Int), .int .u64 ((a.aa.aL:Nat):Int), .int .u64 ((a.aa.aG:Nat):Int), .slice z a.aa.ah.ls.length B, .slice r a.aa.ak.ls.length E, .slice F a.aa.af.ls.length G, .int .u64 ((a.aa.bi:Nat):Int), .int .u64 ((a.aa.aM:Nat):Int), .string ⟨u3 a.aa.aH.aO⟩, .string ⟨u3 a.aa.aH.aS⟩, .int .u64 ((a.aa.aF.aG:Nat):Int), .int .u64 ((a.aa.aF.bu:Nat):Int), .int .u64 ((a.aa.aF.dA:Nat):Int), .string ⟨u3 a.aa.aF.aB.aO⟩, .string ⟨u3 a.aa.aF.aB.aS⟩, .iface 24 (.pointer (some ⟨h,0,none⟩)), .slice O a.ag.ls.length L, .pointer (some ⟨l,0,none⟩), .pointer none] 80,row r a.aa.ak.ls.length E (q0 bg.cells p) 60 2,sepL (q0 He p),row F a.aa.af.ls.length G (q0 (eN .u64) a.aa.af.ls) 32 1,row O a.ag.ls.length L (q0 aR.cells R) 99 4,sepL (q0 G5 R),blk h [.slice S j.xM.ls.length I] 27,blk l [.slice M C.ai.ls.length N] 114,row M C.ai.ls.length N (q0 ay.cells J) 164 6,sepL (q0 GU J)]) (aC:r8 bV.abs Z=u.av.bE.ls) (iq:gz=d.aJ.ls.length) (mO:Ro w D λ w'=>bM w' 6 bG d.aJ.ls.length (q0 aY.cells d.aJ.ls)) (mP:d.aJ.ls.length<=bH/\d.aJ.ls.length<=9223372036854775807) (iw:r8 aP.abs bT=d.aQ.ls) (iy:gB=d.aQ.ls.length) (mQ:Ro w D λ w'=>bM w' 3 bI d.aQ.ls.length (q0 aP.cells bT)) (mR:d.aQ.ls.length<=bK/\d.aQ.ls.length<=9223372036854775807) (mU:∀ x ∈ bT,Ro w D (λ w'=>bM w' 2 x.bq.A x.bq.ls.length (q0 aA.cells x.bq.ls))/\(x.bq.ls.length<=x.bq.c/\x.bq.ls.length<=9223372036854775807)) (iA:gD=d.ah.ls.length) (mV:Ro w D λ w'=>bM w' 2 bN d.ah.ls.length (q0 bL.cells d.ah.ls)) (mW:d.ah.ls.length<=bO/\d.ah.ls.length<=9223372036854775807) (P:r8 bg.abs p=a.aa.ak.ls) (Y:r8 aR.abs R=a.ag.ls) (aD:Ro w D λ w'=>bM w' 2 S j.xM.ls.length (q0 aA.cells j.xM.ls)) (iB:j.xM.ls.length<=I/\j.xM.ls.length<=9223372036854775807) (U:r8 ay.abs J=C.ai.ls) (qV:Tk a.ag.ls a.aa.ak.ls C.ai.ls) (qW:Gt a.ag.ls) (qX:u.bD.ls= []) (qY:a.ag.ls.length+a.aa.ak.ls.length<=6) (qZ:C.ai.ls.length<=6) (q8:u.bD.ls.length<=0/\u.av.bE.ls.length<=1000/\u.av.aI.ls.length<=100/\j.xM.ls.length<=4000/\a.aa.ah.ls.length<=1000/\a.aa.af.ls.length<=999) (q9: ¬ (d.az=3)\/d.aJ.ls.length<=24) (hr:j3 u d a j C=(r0,r1,r2,r3)):
    Calls Tryz.prog 40 #[vP V 0, .agg (ic d.az d.iO d.jD d.gJ d.fG d.iB d.gp d.aT d.aV d.bi d.bv d.aL d.aG d.bu d.xN d.fZ d.aB.aO d.aB.aS bG gz bH bI gB bK bN gD bO).toArray] w (dG λ v w'=> ∃ bU bZ bi cu cz cK cO cZ df bn dm dn dw dx bq dz dA bu,v=vI r0/\Own w D w' [blk V [vP g 0, .slice bU r1.av.bE.ls.length bZ, .slice cu r1.av.aI.ls.length cz, .bool u.av.bU, .slice cK r1.bD.ls.length cO] 92,row bU r1.av.bE.ls.length bZ (q0 bV.cells bi) 47 21,sepL (q0 Hl bi),row cu r1.av.aI.ls.length cz (q0 aY.cells r1.av.aI.ls) 68 6,je cK r1.bD.ls.length cO (q0 di.cells r1.bD.ls) 216 2,blk g [vI a.aa.bC,vU a.aa.aT,vU a.aa.bv,vU a.aa.aL,vU a.aa.aG, .slice z a.aa.ah.ls.length B, .slice cZ r2.aa.ak.ls.length df, .slice dm r2.aa.af.ls.length dn,vU a.aa.bi,vU a.aa.aM, .string ⟨u3 a.aa.aH.aO⟩, .string ⟨u3 a.aa.aH.aS⟩,vU a.aa.aF.aG,vU a.aa.aF.bu,vU a.aa.aF.dA, .string ⟨u3 a.aa.aF.aB.aO⟩, .string ⟨u3 a.aa.aF.aB.aS⟩, .iface 24 (vP h 0), .slice dw r2.ag.ls.length dx,vP l 0, .pointer none] 80,row cZ r2.aa.ak.ls.length df (q0 bg.cells bn) 60 2,sepL (q0 He bn),row dm r2.aa.af.ls.length dn (q0 (eN .u64) r2.aa.af.ls) 32 1,row dw r2.ag.ls.length dx (q0 aR.cells bq) 99 4,sepL (q0 G5 bq),blk h [.slice S j.xM.ls.length I] 27,blk l [.slice dz r3.ai.ls.length dA] 114,row dz r3.ai.ls.length dA (q0 ay.cells bu) 164 6,sepL (q0 GU bu)]/\(r8 bV.abs bi=r1.av.bE.ls)/\(r8 bg.abs bn=r2.aa.ak.ls)/\(r8 aR.abs bq=r2.ag.ls)/\(r8 ay.abs bu=r3.ai.ls)):=by
 subst iq iy iA
 have mK:=aW aC
 have mM:=aW iw
 have jL:=aW P
 have jM:=aW Y
 have gF:=aW U
 have mX:=zr 1 H
 have mY:=zr 3 H
 have mZ:=H.rowCQ (i:=4) rfl
 have jN:=zr 6 H
 have jO:=zr 8 H
 have jP:=zr 9 H
 refine cb Tryz.func40 ?_
 refine sr ?_
 refine bW (lN d bG bH bI bK bN bO) 47 H ?_
 intro ai rf jR
 refine Ar rfl (Mz rfl (Kz (vP ai 8) (Lz (vU d.aV) jR 0 C4 (Kz (.agg (ic 6 0 0 0 0 0 0 0 d.aV 0 0 0 0 0 0 false [] [] none 0 0 none 0 0 none 0 0).toArray) ?_))))
 refine WL.do rfl (GV Tryz.call81 rfl ?_ (λ _ _ k=>k))
 refine cb Tryz.func81 ?_
 refine sr ?_
 refine bW (ic 6 0 0 0 0 0 0 0 d.aV 0 0 0 0 0 0 false [] [] none 0 0 none 0 0 none 0 0) 47 jR ?_
 intro iC rq iD
 refine ns (Mz rfl (Kz (vP V 0) (Kz (vP V 0) (Lz (vP g 0) iD 2 P0 (Kz (vP g 0) (Kz (vP g 0) (Kz (vP g 0) (Lz (vI a.aa.bC) iD 7 Tryz.isAgg3 (Kz (vP iC 1) ?_)))))))))
 refine bY [vI a.aa.bC] 1 iD Tryz.sizeOf3 ?_
 intro ru jS
 refine ns (Kz (vP iC 18) (Lz (.slice none 0 0) jS 0 C6 ?_))
 obtain⟨ry,jU,pW,jV,pX⟩:=Gr jS
 refine cl R8 (iF _ _ none 0 0 [] [] jU (λ _ _=>bM.nil _ _ _) rfl i5 rfl) ?_
 rintro _ rz ⟨W,X,rfl,jW⟩
 have jX:=jV _ _ jW
 have pY:=zr 0 jX
 refine Kz (vP iC 18) ?_
 have ng:=jX.pf [1]
 refine bY [.slice W 0 X] 18 ng Tryz.sizeOf44 ?_
 intro rA ni
 refine nt ?_
 refine l5 18 [8,12] GQ ni ?_
 intro rC nu
 refine Hf (v:=vP V 0) 0 rfl e9 (λ _=>Gv rfl) (qv 1 rfl rfl (qp V 0 2 rfl (qp V 1 3 rfl (qp V 1 4 rfl (ql 5 rfl 3 Tryz.isAgg50 rfl rfl rfl (qt (v:= .agg (ic 6 a.aa.bC 0 0 0 0 0 0 d.aV 0 0 0 0 0 0 false [] [] W 0 X none 0 0 none 0 0).toArray) 6 rfl (λ _ ⟨_,H9⟩=>GH rfl (GJ (cs:=(ic 6 a.aa.bC 0 0 0 0 0 0 d.aV 0 0 0 0 0 0 false [] [] W 0 X none 0 0 none 0 0)) G0 G1 ((H9.cls (i:=0) rfl).lit (k:=0) (m:=21) rfl))) ?_))))))
 refine qd 7 rfl (Hw (cs:=(ic 6 a.aa.bC 0 0 0 0 0 0 d.aV 0 0 0 0 0 0 false [] [] W 0 X none 0 0 none 0 0)) (t:=47) (sz:=21) (m:=1) nu rfl rfl (λ _=>by kernel_rfl) rfl f5 ?_)
 intro ny iE iG
 replace iG:=Ha (y:=row ny 1 1 (q0 bV.cells ([(bV.mk 6 a.aa.bC 0 0 0 0 0 0 d.aV 0 0 0 0 0 0 false (aj.mk [] []) (L3 W X []) (L3 none 0 []) (L3 none 0 []))])) 47 21) rfl iG
 have jY:=iG.pb [0]
 refine⟨.inr ⟨_,jY⟩, ?_⟩
 have nz:Own w D iE (sepL (q0 G8 [])::_):=jY.sepNil
 have nA:Own w D iE (row none 0 0 (q0 aP.cells []) 70 3::_):=nz.free (bX 70 3)
 have nC:Own w D iE (row none 0 0 (q0 bL.cells []) 83 2::_):=nA.free (bX 83 2)
 have jZ:=nC.pf [7,8,4,1]
 refine qd 8 rfl (GZ (k:=u.av.bE.ls.length) (m:=1) (tL) jZ rfl rfl (eT P2 (jZ.rds (i:=21) rfl) (cB bV.one ([(bV.mk 6 a.aa.bC 0 0 0 0 0 0 d.aV 0 0 0 0 0 0 false (aj.mk [] []) (L3 W X []) (L3 none 0 []) (L3 none 0 []))]))) rfl e8 (s:=q5 (u.av.bE.ls++ [(dM.mk 6 a.aa.bC 0 0 0 0 0 0 d.aV 0 0 0 0 0 0 false (aj.mk [] []) (D4 []) (D4 []) (D4 []))])) f4 (t2).symm ?_)
 intro aT aU nD nE
 have nG:=nE.pf [1,2,3,4,5]
 have nH:Own w D nD (sepL (q0 Hl (Z++ [(bV.mk 6 a.aa.bC 0 0 0 0 0 0 d.aV 0 0 0 0 0 0 false (aj.mk [] []) (L3 W X []) (L3 none 0 []) (L3 none 0 []))]))::_):=nG.sepAdd (L2:= [row W 0 X (q0 aY.cells []) 68 6,row none 0 0 (q0 aP.cells []) 70 3,row none 0 0 (q0 bL.cells []) 83 2,sepL (q0 G8 [])]) (t2 (f:=Hl) (xs:=Z) (ys:= [(bV.mk 6 a.aa.bC 0 0 0 0 0 0 d.aV 0 0 0 0 0 0 false (aj.mk [] []) (L3 W X []) (L3 none 0 []) (L3 none 0 []))])).symm
 have p8:q5 (u.av.bE.ls++ [(dM.mk 6 a.aa.bC 0 0 0 0 0 0 d.aV 0 0 0 0 0 0 false (aj.mk [] []) (D4 []) (D4 []) (D4 []))])=u.av.bE.ls.length+1:=by simp only [m8,q6,H2]
 have qb:=aW (jy (es:= [(bV.mk 6 a.aa.bC 0 0 0 0 0 0 d.aV 0 0 0 0 0 0 false (aj.mk [] []) (L3 W X []) (L3 none 0 []) (L3 none 0 []))]) (ms:= [(dM.mk 6 a.aa.bC 0 0 0 0 0 0 d.aV 0 0 0 0 0 0 false (aj.mk [] []) (D4 []) (D4 []) (D4 []))]) aC rfl)
 refine⟨.inl e9, ?_⟩
 refine Hf (v:=vP V 0) 9 rfl e9 (λ _=>yk) (Hf (v:=vP V 1) 10 rfl e9 (λ _=>yk) (Hf (v:=vP V 1) 11 rfl e9 (λ _=>yk) ?_))
 have nI:=nH.pf [4]
 refine qe 12 rfl (Do.store (vs:= [.slice aT (q5 (u.av.bE.ls++ [(dM.mk 6 a.aa.bC 0 0 0 0 0 0 d.aV 0 0 0 0 0 0 false (aj.mk [] []) (D4 []) (D4 []) (D4 []))])) aU]) (o:=1) nI rfl rfl Tryz.sizeOf50 rfl rfl rfl rfl ?_)
 intro rE nJ
 refine⟨.inl e9, ?_⟩
 refine qn (Hq (res0 rfl) (nt (Gp ?_)))
 have nK:=nJ.px [] [3,17] []
 refine l5 16 [] (GD GQ) nK ?_
 intro rF nM
 refine qv 0 rfl rfl (qp V 0 1 rfl (qp V 0 2 rfl (ql 3 rfl 0 P0 rfl rfl rfl (qp ai 8 4 rfl (ql 5 rfl 3 C4 rfl rfl rfl ?_)))))
 have iH:=nM.pf [6]
 have qc:=zr 7 iH
 obtain⟨⟨b,bv⟩,aL⟩:∃ q:Int × Bool,eY a d.aV=q:=⟨_,rfl⟩
 obtain⟨rG,j4,qf,j5,gG⟩:=G9 iH
 refine qd 6 rfl (GV Tryz.call77 rfl (mJ _ _ g a z B r E p F G O L h l d.aV b bv j4 P (gG _ 6 _ rfl bQ) e8 (λ x9 h9=>⟨gG _ 7 _ rfl (bP (M5.2 ⟨x9,h9,b3⟩) bQ),dJ (φ:=λ _=>_) iH (i:=8) rfl (bP (M5.2 ⟨x9,h9,b3⟩) dN)⟩) f0 aL) ?_)
 rintro _ rH ⟨rfl,j6,gH,gI⟩
 have nN:=j5 _ _ j6
 replace gH:0<=b/\b<=(a.aa.ak.ls.length:Int):=gH
 replace gI:Bool.toNat bv=0\/b < (a.aa.ak.ls.length:Int):=gI
 have ko:=nN.pf [1,2,3,4,5,6]
 refine⟨.inr ⟨_,ko⟩, ?_⟩
 refine qv 7 rfl rfl (qk (vI b) 8 rfl (qk (.bool bv) 9 rfl (qa 10 rfl rfl (qa 11 rfl rfl (qn (Gs (Gp ?_)))))))
 refine l5 16 [] (GD GQ) ko ?_
 intro rJ nO
 refine qv 0 rfl rfl (qp V 0 1 rfl (qp V 0 2 rfl (ql 3 rfl 0 P0 rfl rfl rfl (qp ai 8 4 rfl (ql 5 rfl 3 C4 rfl rfl rfl ?_)))))
 have gp:=nO.pf [6]
 have qg:=zr 10 gp
 obtain⟨⟨dB,aV⟩,bR⟩:∃ q:Int × Bool,dh a d.aV=q:=⟨_,rfl⟩
 obtain⟨rM,kr,qh,ku,dC⟩:=G9 gp
 refine qd 6 rfl (GV Tryz.call79 rfl (iY _ _ g a z B r E F G O L R h l d.aV dB aV kr Y (dC _ 9 _ rfl bQ) e8 (λ x9 h9=>⟨dC _ 10 _ rfl (bP (M5.2 ⟨x9,h9,b3⟩) bQ),dJ (φ:=λ _=>_) gp (i:=11) rfl (bP (M5.2 ⟨x9,h9,b3⟩) dN),dC _ 10 _ rfl (bP (M5.2 ⟨x9,h9, .tail _ b3⟩) bQ),dJ (φ:=λ _=>_) gp (i:=11) rfl (bP (M5.2 ⟨x9,h9, .tail _ b3⟩) dN)⟩) f0 bR) ?_)
 rintro _ rO ⟨rfl,kv,gJ,gK⟩
 have nP:=ku _ _ kv
 replace gJ:0<=dB/\dB<=(a.ag.ls.length:Int):=gJ
 replace gK:Bool.toNat aV=0\/dB < (a.ag.ls.length:Int):=gK
 have aa:=nP.pf [1,2,3,4,5,6]
 refine⟨.inr ⟨_,aa⟩, ?_⟩
 refine qv 7 rfl rfl (qk (vI dB) 8 rfl (qk (.bool aV) 9 rfl (qa 10 rfl rfl (qa 11 rfl rfl (qn (Gs (Gp (sr (Mz rfl (Kz (.bool (!bv)) (Mz rfl ?_)))))))))))
 rcases Kq (bv) with Q | Q
 have h101t:Bool.toNat bv=1:=by rw [Q]; rfl
 refine Sz (cn Q) (Sz (cn Q) (fw (.bool false) (Gm rfl (cn Q) rfl) (nt (jf (sk (Gp (sr (Mn rfl (jT Q (sr (Mz rfl (Kz (vP V 0) (Kz (vP V 0) (Lz (vP g 0) aa 0 P0 (Kz (vP g 0) (Kz (vP g 0) (Kz (vP g 6) (Lz (.slice r a.aa.ak.ls.length E) aa 6 C0 (fw (vJ (E0 b)) (Gw (e:=b) (Gv rfl) e8) ?_)))))))))))))))))))
 obtain⟨K,aX⟩:=dI (ls:=p) (i:=E0 b) bg.len f5 (aa.rds (i:=7) rfl) f2
 have dD:=fO P aX
 have nQ:K.aJ.ls.length<=K.aJ.c/\K.aJ.ls.length<=9223372036854775807:=dJ aa (i:=8) rfl (φ:=λ _=>_) (bP (M5.2 ⟨K,C1 aX,b3⟩) dN)
 have nR:K.aJ.ls.length<=24:=JC (hs:=a.aa.ak.ls) f6 dD
 refine fw (.pointer (some ⟨ab r,ao r+(E0 b) *2,none⟩)) (GI (kg) rfl rfl ((aa.rds (i:=7) rfl).addr (i:=E0 b) e8) e8) (Kz (.pointer (some ⟨ab r,ao r+(E0 b) *2+1,none⟩)) (fw (.slice K.aJ.A K.aJ.ls.length K.aJ.c) (GH rfl (bS.one C6 (((aa.rds (i:=7) rfl).elem bg.len aX f5).at_ (k:=1) rfl))) (An rfl (Gp ?_))))
 have kw:=aa.pf [0,3,6,12,13]
 refine Ec [19] (GD (GD GQ)) kw ?_
 intro qi ky
 refine qv 0 rfl rfl (qp V 0 1 rfl (qp V 0 2 rfl (ql 3 rfl 0 P0 rfl rfl rfl (qv 4 rfl rfl (qp V 0 5 rfl (qp V 0 6 rfl (ql 7 rfl 0 P0 rfl rfl rfl (qp g 0 8 rfl (qp g 0 9 rfl (qp g 6 10 rfl (ql 11 rfl 2 C0 rfl rfl rfl (qv 12 rfl rfl (qv 13 rfl rfl (qt (v:=vI (b+1)) 14 rfl (λ _ _=>Gw (e:=IntKind.i64.wrap (b+1)) yk i4) ?_))))))))))))))
 have kz:=ky.pf [9,10]
 obtain⟨qj,iK,nS,iL,nT⟩:=Ht kz
 refine qd 15 rfl (GV Tryz.call85 rfl (yZ _ _ r a.aa.ak.ls.length E p a.aa.ak.ls b (b+1) (E0 b) K iK e8 P e8 e8 e8 aX) ?_)
 rintro _ qm ⟨az,aB,rfl,iM⟩
 have gL:=iL _ _ iM
 have nU:q5 (t1 (E0 b) p++r7 ((E0 b)+1) p)=q5 (t1 (E0 b) a.aa.ak.ls++r7 ((E0 b)+1) a.aa.ak.ls):=by exact aW (nL P)
 have nV:q5 (t1 (E0 b) a.aa.ak.ls++r7 ((E0 b)+1) a.aa.ak.ls)+1=a.aa.ak.ls.length:=by simp only [m8,m6,m7]; omega
 have nW:=zr 2 gL
 have gM:=gL.pf [3,4,5,6,7]
 refine⟨.inr ⟨_,gM⟩, ?_⟩
 refine qp g 0 16 rfl (qp g 0 17 rfl (qp g 6 18 rfl ?_))
 have kC:=gM.pf [2]
 refine qe 19 rfl (Do.store (vs:= [.slice az (q5 (t1 (E0 b) a.aa.ak.ls++r7 ((E0 b)+1) a.aa.ak.ls)) aB]) (o:=6) kC rfl rfl Tryz.sizeOf34 rfl rfl rfl rfl ?_)
 intro qo dE
 refine⟨.inl e9, ?_⟩
 refine qn (Gs (sr (Kz (vP ai 15) (Lz (.bool d.fZ) dE 2 Tryz.isAgg4 (nt ?_)))))
 obtain⟨kD,bB⟩:=xW λ aM (aF:Nat) T w'=>Own w D w' [blk g [vI a.aa.bC,vU a.aa.aT,vU a.aa.bv,vU a.aa.aL,vU a.aa.aG, .slice z a.aa.ah.ls.length B, .slice az (q5 (t1 (E0 b) a.aa.ak.ls++r7 ((E0 b)+1) a.aa.ak.ls)) aB, .slice F a.aa.af.ls.length G,vU a.aa.bi,vU a.aa.aM, .string ⟨u3 a.aa.aH.aO⟩, .string ⟨u3 a.aa.aH.aS⟩,vU a.aa.aF.aG,vU a.aa.aF.bu,vU a.aa.aF.dA, .string ⟨u3 a.aa.aF.aB.aO⟩, .string ⟨u3 a.aa.aF.aB.aS⟩, .iface 24 (vP h 0), .slice O a.ag.ls.length L,vP l 0, .pointer none] 80,blk V [vP g 0, .slice aT (q5 (u.av.bE.ls++ [(dM.mk 6 a.aa.bC 0 0 0 0 0 0 d.aV 0 0 0 0 0 0 false (aj.mk [] []) (D4 []) (D4 []) (D4 []))])) aU, .slice aM T.length aF, .bool u.av.bU, .slice au u.bD.ls.length av] 92,blk ai (lN d bG bH bI bK bN bO) 47,blk h [.slice S j.xM.ls.length I] 27,blk l [.slice M C.ai.ls.length N] 114,row az (q5 (t1 (E0 b) a.aa.ak.ls++r7 ((E0 b)+1) a.aa.ak.ls)) aB (q0 bg.cells (t1 (E0 b) p++r7 ((E0 b)+1) p)) 60 2,sepL (q0 He (t1 (E0 b) p++r7 ((E0 b)+1) p)),row K.aJ.A K.aJ.ls.length K.aJ.c (q0 aY.cells K.aJ.ls) 68 6,sepL (q0 Hl (Z++ [(bV.mk 6 a.aa.bC 0 0 0 0 0 0 d.aV 0 0 0 0 0 0 false (aj.mk [] []) (L3 W X []) (L3 none 0 []) (L3 none 0 []))])),row aT (q5 (u.av.bE.ls++ [(dM.mk 6 a.aa.bC 0 0 0 0 0 0 d.aV 0 0 0 0 0 0 false (aj.mk [] []) (D4 []) (D4 []) (D4 []))])) aU (q0 bV.cells (Z++ [(bV.mk 6 a.aa.bC 0 0 0 0 0 0 d.aV 0 0 0 0 0 0 false (aj.mk [] []) (L3 W X []) (L3 none 0 []) (L3 none 0 []))])) 47 21,je au u.bD.ls.length av (q0 di.cells u.bD.ls) 216 2,row F a.aa.af.ls.length G (q0 (eN .u64) a.aa.af.ls) 32 1,row O a.ag.ls.length L (q0 aR.cells R) 99 4,sepL (q0 G5 R),row M C.ai.ls.length N (q0 ay.cells J) 164 6,sepL (q0 GU J),row aM T.length aF (q0 aY.cells T) 68 6]/\T.length<=200/\(if d.fZ=true then bnd (kW (bJ.mk (dH.mk (D4 (u.av.bE.ls++ [(dM.mk 6 a.aa.bC 0 0 0 0 0 0 d.aV 0 0 0 0 0 0 false (aj.mk [] []) (D4 []) (D4 []) (D4 []))])) (D4 u.av.aI.ls) u.av.bU) (D4 u.bD.ls)) K.aJ.ls (ax.mk (bA.mk a.aa.bC a.aa.aT a.aa.bv a.aa.aL a.aa.aG (D4 a.aa.ah.ls) (D4 (t1 (E0 b) a.aa.ak.ls++r7 ((E0 b)+1) a.aa.ak.ls)) (D4 a.aa.af.ls) a.aa.bi a.aa.aM a.aa.aH a.aa.aF) (D4 a.ag.ls))) λ iN=>iN.av.aI.ls else u.av.aI.ls)=T
 refine Iq (λ i:(Option Addr) × Nat × (List aY)=> [(4,vI 0),(3,vP ai 0),(0,vP V 0)]) kD ?_ ?_
 rcases Kq (d.fZ) with bf | bf
 refine jT bf (Gq (Mz rfl (Mz rfl ?_)))
 have kE:=dE.pf [1,10]
 obtain⟨dF,dK⟩:∃ q,kW (bJ.mk (dH.mk (D4 (u.av.bE.ls++ [(dM.mk 6 a.aa.bC 0 0 0 0 0 0 d.aV 0 0 0 0 0 0 false (aj.mk [] []) (D4 []) (D4 []) (D4 []))])) (D4 u.av.aI.ls) u.av.bU) (D4 u.bD.ls)) K.aJ.ls (ax.mk (bA.mk a.aa.bC a.aa.aT a.aa.bv a.aa.aL a.aa.aG (D4 a.aa.ah.ls) (D4 (t1 (E0 b) a.aa.ak.ls++r7 ((E0 b)+1) a.aa.ak.ls)) (D4 a.aa.af.ls) a.aa.bi a.aa.aM a.aa.aH a.aa.aF) (D4 a.ag.ls))=q:=⟨_,rfl⟩
 obtain⟨qw,iO,nX,iP,iQ⟩:=H6 kE
 refine cl Tryz.call86 (vE _ _ V (bJ.mk (dH.mk (D4 (u.av.bE.ls++ [(dM.mk 6 a.aa.bC 0 0 0 0 0 0 d.aV 0 0 0 0 0 0 false (aj.mk [] []) (D4 []) (D4 []) (D4 []))])) (D4 u.av.aI.ls) u.av.bU) (D4 u.bD.ls)) aT aU ak ah au av K.aJ.A K.aJ.ls.length K.aJ.c K.aJ.ls g (ax.mk (bA.mk a.aa.bC a.aa.aT a.aa.bv a.aa.aL a.aa.aG (D4 a.aa.ah.ls) (D4 (t1 (E0 b) a.aa.ak.ls++r7 ((E0 b)+1) a.aa.ak.ls)) (D4 a.aa.af.ls) a.aa.bi a.aa.aM a.aa.aH a.aa.aF) (D4 a.ag.ls)) z B az aB F G O L h l dF iO (iQ _ 5 _ rfl bQ) rfl e8 f0 dK) ?_
 rintro _ qx ⟨kF,kG,rfl,iT,dL⟩
 have gN:=iP _ _ iT
 have nY:=zr 1 gN
 replace dL:dF.av.aI.ls.length<=u.av.aI.ls.length+K.aJ.ls.length:=dL
 refine WL.nil ?_
 have kH:=gN.px [2] [] [1]
 exact Ia (kF,kG,dF.av.aI.ls) ⟨rfl,rfl,rfl,trivial⟩ (bB.2 ⟨kH,e8,et (ip bf) (ae dK)⟩)
 refine jF bf (G7 ?_)
 have kI:=dE.pb [10]
 exact Ia (ak,ah,u.av.aI.ls) ⟨rfl,rfl,rfl,trivial⟩ (bB.2 ⟨kI,e8,dY bf⟩)
 rintro ⟨aM,aF,T⟩ qy iU
 show Wp _ _ _ [(4,vI 0),(3,vP ai 0),(0,vP V 0)] _ _
 obtain⟨kJ,og,iV⟩:=bB.1 iU
 refine Gp ?_
 have kK:=kJ.px [] [7] []
 have kL:=kK.pb [0,5,6,10,11,12]
 refine l5 10 [] (GD GQ) kL ?_
 intro qz kM
 refine qv 0 rfl rfl (qp V 0 1 rfl (qp V 0 2 rfl (ql 3 rfl 0 P0 rfl rfl rfl (qp ai 8 4 rfl (ql 5 rfl 1 C4 rfl rfl rfl ?_)))))
 have kN:=kM.pf [10,14,15]
 obtain⟨af,bC⟩:∃ q,eU (ax.mk (bA.mk a.aa.bC a.aa.aT a.aa.bv a.aa.aL a.aa.aG (D4 a.aa.ah.ls) (D4 (t1 (E0 b) a.aa.ak.ls++r7 ((E0 b)+1) a.aa.ak.ls)) (D4 a.aa.af.ls) a.aa.bi a.aa.aM a.aa.aH a.aa.aF) (D4 a.ag.ls)) d.aV=q:=⟨_,rfl⟩
 obtain⟨qA,iW,oh,iX,ol⟩:=H6 kN
 refine qd 6 rfl (GV Tryz.call87 rfl (lY _ _ g (ax.mk (bA.mk a.aa.bC a.aa.aT a.aa.bv a.aa.aL a.aa.aG (D4 a.aa.ah.ls) (D4 (t1 (E0 b) a.aa.ak.ls++r7 ((E0 b)+1) a.aa.ak.ls)) (D4 a.aa.af.ls) a.aa.bi a.aa.aM a.aa.aH a.aa.aF) (D4 a.ag.ls)) z B az aB F G O L R h l d.aV af iW Y f0 bC) ?_)
 rintro _ qB ⟨dO,dP,kP,rfl,iZ,dQ⟩
 have gP:=iX _ _ iZ
 have om:=aW dQ
 have oo:=zr 1 gP
 have gQ:=gP.pb [0,1,2,13,14,15]
 refine⟨.inr ⟨_,gQ⟩, ?_⟩
 refine qn (Gs (Gp ?_))
 refine l5 10 [] (GD GQ) gQ ?_
 intro qC kQ
 refine qv 0 rfl rfl (qp V 0 1 rfl (qp V 0 2 rfl (ql 3 rfl 0 P0 rfl rfl rfl (qp ai 8 4 rfl (ql 5 rfl 1 C4 rfl rfl rfl ?_)))))
 have kR:=kQ.pf [10,15]
 obtain⟨aG,dR⟩:∃ q,il (ax.mk (bA.mk a.aa.bC a.aa.aT a.aa.bv a.aa.aL a.aa.aG (D4 a.aa.ah.ls) (D4 (t1 (E0 b) a.aa.ak.ls++r7 ((E0 b)+1) a.aa.ak.ls)) (D4 a.aa.af.ls) a.aa.bi a.aa.aM a.aa.aH a.aa.aF) (D4 af.ag.ls)) d.aV=q:=⟨_,rfl⟩
 obtain⟨qD,ja,oq,jb,ou⟩:=Ht kR
 refine qd 6 rfl (GV Tryz.call88 rfl (p9 _ _ g (ax.mk (bA.mk a.aa.bC a.aa.aT a.aa.bv a.aa.aL a.aa.aG (D4 a.aa.ah.ls) (D4 (t1 (E0 b) a.aa.ak.ls++r7 ((E0 b)+1) a.aa.ak.ls)) (D4 a.aa.af.ls) a.aa.bi a.aa.aM a.aa.aH a.aa.aF) (D4 af.ag.ls)) z B az aB F G dO dP h l d.aV aG ja f0 dR) ?_)
 rintro _ qE ⟨dS,dU,rfl,jc,dV⟩
 have gT:=jb _ _ jc
 have ow:=zr 1 gT
 replace dV:aG.aa.af.ls.length<=a.aa.af.ls.length+1:=dV
 have dW:=gT.pb [0,1,12,13,14,15]
 refine⟨.inr ⟨_,dW⟩, ?_⟩
 refine qn (Gs (sr (Mz rfl (Kz (vP ai 8) (Lz (vU d.aV) dW 1 C4 ?_)))))
 have kS:=dW.pf [0,6,10,3,7,8]
 obtain⟨⟨aH,aN⟩,bD⟩:∃ q:bJ × aZ,gu (bJ.mk (dH.mk (D4 (u.av.bE.ls++ [(dM.mk 6 a.aa.bC 0 0 0 0 0 0 d.aV 0 0 0 0 0 0 false (aj.mk [] []) (D4 []) (D4 []) (D4 []))])) (D4 T) u.av.bU) (D4 u.bD.ls)) d.aV (ax.mk (bA.mk a.aa.bC a.aa.aT a.aa.bv a.aa.aL a.aa.aG (D4 a.aa.ah.ls) (D4 (t1 (E0 b) a.aa.ak.ls++r7 ((E0 b)+1) a.aa.ak.ls)) (D4 aG.aa.af.ls) a.aa.bi a.aa.aM a.aa.aH a.aa.aF) (D4 af.ag.ls)) C=q:=⟨_,rfl⟩
 obtain⟨qF,jd,oz,jg,oC⟩:=Ic kS
 refine cl Tryz.call89 (nZ _ _ V (bJ.mk (dH.mk (D4 (u.av.bE.ls++ [(dM.mk 6 a.aa.bC 0 0 0 0 0 0 d.aV 0 0 0 0 0 0 false (aj.mk [] []) (D4 []) (D4 []) (D4 []))])) (D4 T) u.av.bU) (D4 u.bD.ls)) aT aU aM aF au av d.aV g (ax.mk (bA.mk a.aa.bC a.aa.aT a.aa.bv a.aa.aL a.aa.aG (D4 a.aa.ah.ls) (D4 (t1 (E0 b) a.aa.ak.ls++r7 ((E0 b)+1) a.aa.ak.ls)) (D4 aG.aa.af.ls) a.aa.bi a.aa.aM a.aa.aH a.aa.aF) (D4 af.ag.ls)) z B az aB dS dU dO dP h l C M N J aH aN jd U f0 (by first | assumption | exact Tk.snd f6) bD) ?_
 rintro _ qG ⟨kT,kU,kV,kX,kY,rfl,jh,dX,dZ⟩
 have d9:=jg _ _ jh
 have oD:=aW dX
 have oF:=d9.rowCQ (i:=1) rfl
 have oG:=zr 4 d9
 replace dZ:aH.bD.ls.length<=u.bD.ls.length+24:=dZ
 obtain⟨ed,ek,eu,eB⟩:=AA (m:=a) (m1:=(ax.mk (bA.mk a.aa.bC a.aa.aT a.aa.bv a.aa.aL a.aa.aG (D4 a.aa.ah.ls) (D4 (t1 (E0 b) a.aa.ak.ls++r7 ((E0 b)+1) a.aa.ak.ls)) (D4 a.aa.af.ls) a.aa.bi a.aa.aM a.aa.aH a.aa.aF) (D4 a.ag.ls))) (hs':=(t1 (E0 b) a.aa.ak.ls++r7 ((E0 b)+1) a.aa.ak.ls)) f6 f6 aL (.inl ⟨Q,rfl⟩) rfl bC i8 bD
 replace ed:Tk af.ag.ls (t1 (E0 b) a.aa.ak.ls++r7 ((E0 b)+1) a.aa.ak.ls) aN.ai.ls:=ed
 replace ek:Gt af.ag.ls:=ek
 replace eu:Li aH.bD.ls aN.ai.ls:=eu
 replace eB:aH.bD.ls.length<=6:=eB
 have oH:jQ aH.bD.ls af.ag.ls aN.ai.ls<=306:=Nat.le_trans (Ay f6 _) e8
 refine nt (Gp ?_)
 have kZ:=d9.px [] [6] []
 refine Gq (Mz rfl ?_)
 have gU:=kZ.pf [0,8,7,1,2,13,14,11,12,6]
 have oI:=zr 13 gU
 obtain⟨⟨gV,eD,eF,gW⟩,eG⟩:∃ q:Int × bJ × ax × aZ,fE (bJ.mk (dH.mk (D4 (u.av.bE.ls++ [(dM.mk 6 a.aa.bC 0 0 0 0 0 0 d.aV 0 0 0 0 0 0 false (aj.mk [] []) (D4 []) (D4 []) (D4 []))])) (D4 T) u.av.bU) (D4 aH.bD.ls)) (ax.mk (bA.mk a.aa.bC a.aa.aT a.aa.bv a.aa.aL a.aa.aG (D4 a.aa.ah.ls) (D4 (t1 (E0 b) a.aa.ak.ls++r7 ((E0 b)+1) a.aa.ak.ls)) (D4 aG.aa.af.ls) a.aa.bi a.aa.aM a.aa.aH a.aa.aF) (D4 af.ag.ls)) j aN=q:=⟨_,rfl⟩
 obtain⟨qH,ji,jk,jl,jm⟩:=Ik gU
 refine cl R9 (nk _ _ V (bJ.mk (dH.mk (D4 (u.av.bE.ls++ [(dM.mk 6 a.aa.bC 0 0 0 0 0 0 d.aV 0 0 0 0 0 0 false (aj.mk [] []) (D4 []) (D4 []) (D4 []))])) (D4 T) u.av.bU) (D4 aH.bD.ls)) aT aU (Z++ [(bV.mk 6 a.aa.bC 0 0 0 0 0 0 d.aV 0 0 0 0 0 0 false (aj.mk [] []) (L3 W X []) (L3 none 0 []) (L3 none 0 []))]) aM aF kT kU g (ax.mk (bA.mk a.aa.bC a.aa.aT a.aa.bv a.aa.aL a.aa.aG (D4 a.aa.ah.ls) (D4 (t1 (E0 b) a.aa.ak.ls++r7 ((E0 b)+1) a.aa.ak.ls)) (D4 aG.aa.af.ls) a.aa.bi a.aa.aM a.aa.aH a.aa.aF) (D4 af.ag.ls)) z B az aB (t1 (E0 b) p++r7 ((E0 b)+1) p) dS dU dO dP kP h j S I l aN kV kX kY gV eD eF gW ji (jy (es:= [(bV.mk 6 a.aa.bC 0 0 0 0 0 0 d.aV 0 0 0 0 0 0 false (aj.mk [] []) (L3 W X []) (L3 none 0 []) (L3 none 0 []))]) (ms:= [(dM.mk 6 a.aa.bC 0 0 0 0 0 0 d.aV 0 0 0 0 0 0 false (aj.mk [] []) (D4 []) (D4 []) (D4 []))]) aC rfl) (jm _ 0 _ rfl bQ) e8 (nL P) dQ (jk _ aD) e8 dX f6 f6 f6 (by first | omega | exact Tk.n f6) (by first | omega | exact Tk.rows f6) f0 eG) ?_
 rintro _ qI ⟨lc,lg,lh,ll,lm,lq,lu,lv,lw,lC,lD,lF,lG,lH,rfl,jo,eH,eO,eP,eQ⟩
 have aO:=jl _ _ jo
 have oJ:=aW eH
 have oK:=aW eO
 have oL:=aW eP
 have oM:=aW eQ
 have oN:=zr 1 aO
 have oO:=aO.rowCQ (i:=3) rfl
 have oP:=zr 5 aO
 have oQ:=zr 7 aO
 have oU:=zr 11 aO
 refine An rfl (rt (rs ?_))
 have lI:=aO.pf [0,1,2,13,3,4,5,6,14]
 obtain⟨rfl,rfl,rfl,rfl⟩:=iR (zj hr (show _=(gV,bJ.mk (dH.mk (D4 eD.av.bE.ls) (D4 T) u.av.bU) (D4 eD.bD.ls),ax.mk (bA.mk a.aa.bC a.aa.aT a.aa.bv a.aa.aL a.aa.aG (D4 a.aa.ah.ls) (D4 eF.aa.ak.ls) (D4 aG.aa.af.ls) a.aa.bi a.aa.aM a.aa.aH a.aa.aF) (D4 eF.ag.ls),gW) from et (ae aL) (et (ae bR) (et (ip Q) (et (ae (bz dD)) (et (ae iV) (et (ae bC) (et (ae dR) (et (ae bD) (ae eG))))))))))
 exact⟨lc,lg,lh,aM,aF,ll,lm,lq,lu,lv,dS,dU,lw,lC,lD,lF,lG,lH,rfl,lI,eH,eO,eP,eQ⟩
 have h101t:Bool.toNat bv=0:=by rw [Q]; rfl
 refine gw (.bool aV) (cn Q) (Gv rfl) (Gz (.bool (!aV)) (cn Q) (fw (.bool (!aV)) (Gu rfl (cn Q) rfl) (nt ?_)))
 rcases Kq (aV) with aI | aI
 have h293t:Bool.toNat aV=1:=by rw [aI]; rfl
 refine jF (cn aI) (sk (Gp (sr (Mn rfl (jF Q (sk (Gp ?_)))))))
 have lJ:=aa.pb [6,7,8,9,10,11]
 refine l5 10 [] (GD GQ) lJ ?_
 intro qJ lK
 refine qv 0 rfl rfl (qp V 0 1 rfl (qp V 0 2 rfl (ql 3 rfl 0 P0 rfl rfl rfl (qp ai 8 4 rfl (ql 5 rfl 3 C4 rfl rfl rfl ?_)))))
 have lL:=lK.pf [10,14,15]
 obtain⟨ag,bE⟩:∃ q,eU a d.aV=q:=⟨_,rfl⟩
 obtain⟨qK,jq,oV,jr,oW⟩:=H6 lL
 refine qd 6 rfl (GV Tryz.call87 rfl (lY _ _ g a z B r E F G O L R h l d.aV ag jq Y f0 bE) ?_)
 rintro _ qL ⟨eX,eZ,lM,rfl,jv,fe⟩
 have gX:=jr _ _ jv
 have oZ:=aW fe
 have o5:=zr 1 gX
 have gY:=gX.pb [0,1,2,13,14,15]
 refine⟨.inr ⟨_,gY⟩, ?_⟩
 refine qn (Gs (Gp ?_))
 refine l5 10 [] (GD GQ) gY ?_
 intro qM lQ
 refine qv 0 rfl rfl (qp V 0 1 rfl (qp V 0 2 rfl (ql 3 rfl 0 P0 rfl rfl rfl (qp ai 8 4 rfl (ql 5 rfl 3 C4 rfl rfl rfl ?_)))))
 have lS:=lQ.pf [10,15]
 obtain⟨aJ,fo⟩:∃ q,il (ax.mk a.aa (D4 ag.ag.ls)) d.aV=q:=⟨_,rfl⟩
 obtain⟨qN,jw,o6,jA,o7⟩:=Ht lS
 refine qd 6 rfl (GV Tryz.call88 rfl (p9 _ _ g (ax.mk a.aa (D4 ag.ag.ls)) z B r E F G eX eZ h l d.aV aJ jw f0 fo) ?_)
 rintro _ qO ⟨fq,fu,rfl,jB,fA⟩
 have gZ:=jA _ _ jB
 have o8:=zr 1 gZ
 replace fA:aJ.aa.af.ls.length<=a.aa.af.ls.length+1:=fA
 have fB:=gZ.pb [0,1,12,13,14,15]
 refine⟨.inr ⟨_,fB⟩, ?_⟩
 refine qn (Gs (sr (Mz rfl (Kz (vP ai 8) (Lz (vU d.aV) fB 3 C4 ?_)))))
 have lT:=fB.pf [0,5,10,7,8,9]
 obtain⟨⟨aK,aQ⟩,bF⟩:∃ q:bJ × aZ,gu (bJ.mk (dH.mk (D4 (u.av.bE.ls++ [(dM.mk 6 a.aa.bC 0 0 0 0 0 0 d.aV 0 0 0 0 0 0 false (aj.mk [] []) (D4 []) (D4 []) (D4 []))])) (D4 u.av.aI.ls) u.av.bU) (D4 u.bD.ls)) d.aV (ax.mk (bA.mk a.aa.bC a.aa.aT a.aa.bv a.aa.aL a.aa.aG (D4 a.aa.ah.ls) (D4 a.aa.ak.ls) (D4 aJ.aa.af.ls) a.aa.bi a.aa.aM a.aa.aH a.aa.aF) (D4 ag.ag.ls)) C=q:=⟨_,rfl⟩
 obtain⟨qP,jC,o9,jD,pg⟩:=Ic lT
 refine cl Tryz.call89 (nZ _ _ V (bJ.mk (dH.mk (D4 (u.av.bE.ls++ [(dM.mk 6 a.aa.bC 0 0 0 0 0 0 d.aV 0 0 0 0 0 0 false (aj.mk [] []) (D4 []) (D4 []) (D4 []))])) (D4 u.av.aI.ls) u.av.bU) (D4 u.bD.ls)) aT aU ak ah au av d.aV g (ax.mk (bA.mk a.aa.bC a.aa.aT a.aa.bv a.aa.aL a.aa.aG (D4 a.aa.ah.ls) (D4 a.aa.ak.ls) (D4 aJ.aa.af.ls) a.aa.bi a.aa.aM a.aa.aH a.aa.aF) (D4 ag.ag.ls)) z B r E fq fu eX eZ h l C M N J aK aQ jC U f0 (by first | assumption | exact Tk.snd f6) bF) ?_
 rintro _ qQ ⟨lU,lV,lW,lX,lZ,rfl,jE,fC,fD⟩
 have fF:=jD _ _ jE
 have pq:=aW fC
 have pu:=fF.rowCQ (i:=1) rfl
 have pz:=zr 4 fF
 replace fD:aK.bD.ls.length<=u.bD.ls.length+24:=fD
 obtain⟨fG,fH,fI,fJ⟩:=AA (m:=a) (m1:=a) (hs':=a.aa.ak.ls) f6 f6 aL (by first | exact .inl ⟨Q,rfl⟩ | exact .inr ⟨Q,rfl⟩) rfl bE i8 bF
 replace fG:Tk ag.ag.ls a.aa.ak.ls aQ.ai.ls:=fG
 replace fH:Gt ag.ag.ls:=fH
 replace fI:Li aK.bD.ls aQ.ai.ls:=fI
 replace fJ:aK.bD.ls.length<=6:=fJ
 have pE:jQ aK.bD.ls ag.ag.ls aQ.ai.ls<=306:=Nat.le_trans (Ay f6 _) e8
 refine nt (Gp ?_)
 have l6:=fF.px [] [8] []
 refine Gq (Mz rfl ?_)
 have ib:=l6.pf [0,7,6,1,2,13,14,11,12,9]
 have pF:=zr 13 ib
 obtain⟨⟨ig,fK,fM,ik⟩,fP⟩:∃ q:Int × bJ × ax × aZ,fE (bJ.mk (dH.mk (D4 (u.av.bE.ls++ [(dM.mk 6 a.aa.bC 0 0 0 0 0 0 d.aV 0 0 0 0 0 0 false (aj.mk [] []) (D4 []) (D4 []) (D4 []))])) (D4 u.av.aI.ls) u.av.bU) (D4 aK.bD.ls)) (ax.mk (bA.mk a.aa.bC a.aa.aT a.aa.bv a.aa.aL a.aa.aG (D4 a.aa.ah.ls) (D4 a.aa.ak.ls) (D4 aJ.aa.af.ls) a.aa.bi a.aa.aM a.aa.aH a.aa.aF) (D4 ag.ag.ls)) j aQ=q:=⟨_,rfl⟩
 obtain⟨qR,jG,jH,jI,jJ⟩:=Ik ib
 refine cl R9 (nk _ _ V (bJ.mk (dH.mk (D4 (u.av.bE.ls++ [(dM.mk 6 a.aa.bC 0 0 0 0 0 0 d.aV 0 0 0 0 0 0 false (aj.mk [] []) (D4 []) (D4 []) (D4 []))])) (D4 u.av.aI.ls) u.av.bU) (D4 aK.bD.ls)) aT aU (Z++ [(bV.mk 6 a.aa.bC 0 0 0 0 0 0 d.aV 0 0 0 0 0 0 false (aj.mk [] []) (L3 W X []) (L3 none 0 []) (L3 none 0 []))]) ak ah lU lV g (ax.mk (bA.mk a.aa.bC a.aa.aT a.aa.bv a.aa.aL a.aa.aG (D4 a.aa.ah.ls) (D4 a.aa.ak.ls) (D4 aJ.aa.af.ls) a.aa.bi a.aa.aM a.aa.aH a.aa.aF) (D4 ag.ag.ls)) z B r E p fq fu eX eZ lM h j S I l aQ lW lX lZ ig fK fM ik jG (jy (es:= [(bV.mk 6 a.aa.bC 0 0 0 0 0 0 d.aV 0 0 0 0 0 0 false (aj.mk [] []) (L3 W X []) (L3 none 0 []) (L3 none 0 []))]) (ms:= [(dM.mk 6 a.aa.bC 0 0 0 0 0 0 d.aV 0 0 0 0 0 0 false (aj.mk [] []) (D4 []) (D4 []) (D4 []))]) aC rfl) (jJ _ 0 _ rfl bQ) e8 P fe (jH _ aD) e8 fC f6 f6 f6 (by first | omega | exact Tk.n f6) (by first | omega | exact Tk.rows f6) f0 fP) ?_
 rintro _ qU ⟨l7,l8,l9,ma,mf,mg,mh,mi,mo,mq,mr,mD,mE,mF,rfl,jK,fQ,fT,fU,fV⟩
 have aS:=jI _ _ jK
 have pG:=aW fQ
 have pI:=aW fT
 have pJ:=aW fU
 have pK:=aW fV
 have pM:=zr 1 aS
 have pO:=aS.rowCQ (i:=3) rfl
 have pQ:=zr 5 aS
 have pR:=zr 7 aS
 have pU:=zr 11 aS
 refine An rfl (rt (rs ?_))
 have mG:=aS.pf [0,1,2,13,3,4,5,6,14]
 obtain⟨rfl,rfl,rfl,rfl⟩:=iR (zj hr (show _=(ig,bJ.mk (dH.mk (D4 fK.av.bE.ls) (D4 u.av.aI.ls) u.av.bU) (D4 fK.bD.ls),ax.mk (bA.mk a.aa.bC a.aa.aT a.aa.bv a.aa.aL a.aa.aG (D4 a.aa.ah.ls) (D4 fM.aa.ak.ls) (D4 aJ.aa.af.ls) a.aa.bi a.aa.aM a.aa.aH a.aa.aF) (D4 fM.ag.ls),ik) from et (ae aL) (et (ae bR) (et (dY Q) (et (ip aI) (et (ae bE) (et (ae fo) (et (ae bF) (ae fP)))))))))
 exact⟨l7,l8,l9,ak,ah,ma,mf,mg,mh,mi,fq,fu,mo,mq,mr,mD,mE,mF,rfl,mG,fQ,fT,fU,fV⟩
 have h293t:Bool.toNat aV=0:=by rw [aI]; rfl
 refine jT (cn aI) (sr (An rfl (rt (tR (rs ?_)))))
 have mH:=aa.px [0,2] [3] []
 obtain⟨rfl,rfl,rfl,rfl⟩:=iR (zj hr (show _=(0,bJ.mk (dH.mk (D4 (u.av.bE.ls++ [(dM.mk 6 a.aa.bC 0 0 0 0 0 0 d.aV 0 0 0 0 0 0 false (aj.mk [] []) (D4 []) (D4 []) (D4 []))])) (D4 u.av.aI.ls) u.av.bU) (D4 u.bD.ls),a,C) from et (ae aL) (et (ae bR) (et (dY Q) (dY aI))))).symm
 exact⟨aT,aU,(Z++ [(bV.mk 6 a.aa.bC 0 0 0 0 0 0 d.aV 0 0 0 0 0 0 false (aj.mk [] []) (L3 W X []) (L3 none 0 []) (L3 none 0 []))]),ak,ah,au,av,r,E,p,F,G,O,L,R,M,N,J,rfl,mH,(jy (es:= [(bV.mk 6 a.aa.bC 0 0 0 0 0 0 d.aV 0 0 0 0 0 0 false (aj.mk [] []) (L3 W X []) (L3 none 0 []) (L3 none 0 []))]) (ms:= [(dM.mk 6 a.aa.bC 0 0 0 0 0 0 d.aV 0 0 0 0 0 0 false (aj.mk [] []) (D4 []) (D4 []) (D4 []))]) aC rfl),P,Y,U⟩
end
section
open Go.RowKit
theorem Du {x:dM}:∀ {l:List Int},lp (jG x l) (λ _=>true)=true->∀ f ∈ l,ru x f=true
  | [],_,f,hf=>by cases hf
  | y::l,h,f,hf=>by
    simp only [jG,bnd] at h
    by_cases e:ru x y=true
    . rw [if_pos e] at h
      rcases List.mem_cons.1 hf with rfl | hf
      . exact e
      . exact Du h f hf
    . rw [if_neg e] at h; cases h
theorem Cj {x:dM} {r:Int} (h:lL x=r) (a:r=0) (hk:x.az=3):pR 3 x.aJ.ls=true:=by
  subst a
  unfold lL rC at h
  simp only [bnd] at h
  rcases el:qc x.az with ⟨y,ok⟩
  rw [el] at h
  split at h
  case isFalse=>cases h
  split at h
  case isFalse=>cases h
  split at h
  case isFalse=>cases h
  split at h
  case isFalse=>cases h
  split at h
  case isFalse=>cases h
  rename_i hm
  have b:(7:Int) ∈ y.bZ.ls:=by
    rw [hk] at el
    have:y=fF.mk 0 1 (Ll.mk ([4,5,6,7])):=(congrArg Prod.fst el).symm
    rw [this]; decide
  have:=Du hm 7 b
  simp only [ru,bnd,Int.reduceEq, ↓reduceIte] at this
  rw [hk] at this
  exact this
theorem y9 {x:dM} {r:Int} (h:lL x=r): ¬ (r=0)\/¬ (x.az=3)\/List.length x.aJ.ls<=24:=by
  by_cases a:r=0
  . by_cases hk:x.az=3
    . have:=Cj h a hk
      unfold pR at this
      rw [if_neg f5,if_pos rfl] at this
      refine .inr (.inr ?_)
      split at this
      . split at this
        . omega
        . cases this
      . cases this
    . exact .inr (.inl hk)
  . exact .inl a
section
variable {κ ν:Type} [DecidableEq κ] {P:Program} {n:Nat} {F:List (Nat × Value)} {w0 w:World} {D:Nat->Prop} {L:List HP} {ty t kt e:TypeId} {ek:κ->Value} {vv:ν->Value} {m:List (κ × ν)} {g:Nat} {K:Value->World->Prop} {x y q:Operand}
theorem Io {k:κ} {v:ν} (H:Own w0 D w (oM g ek vv m::L)) (K':xe P kt ek) (ht:P.underlying t=some (.map kt e)) (hx:ev F x=some (.map (some g))) (hy:ev F y=some (ek k)) (hq:ev F q=some (vv v))
    (h:∀ w',Own w0 D w' (oM g ek vv (fV m k v)::L)->K undef w'):Do P n F w (.insert t x y q) ty K:=λ a ha op b c next Q hnx=>by
  have d:execOp a.eval op=execOp a.eval { op with op:= .mapUpdate t x y q }:=by unfold execOp; rw [b]
  rw [d]
  exact IW H K' ht hx hy hq h a ha { op with op:= .mapUpdate t x y q } rfl c next Q hnx
end
def vF:Option Nat->Value
  | some f=> .func (.func f) #[] #[]
  | none=> .nilFunc
theorem EF {k:Int} {a b c d e f:Option Nat} (h: ¬ k=12) (i: ¬ k=11) (j: ¬ k=10) (l: ¬ k=8) (o: ¬ k=5) (p: ¬ k=3):nT (fV (fV (fV (fV (fV (fV ([]:List (Int × Option Nat)) 3 a) 5 b) 8 c) 10 d) 11 e) 12 f) k=none:=by
  simp [fV,nT,Ne.symm p,Ne.symm o,Ne.symm l,Ne.symm j,Ne.symm i,Ne.symm h]
end
open _root_.Go.Proofs.Tryz renaming call18->S0,isAgg3->v5,isAgg41->D0,isAgg52->S3,sizeOf4->S2,sizeOf41->D1,sizeOf52->S4,underlying3->u6,underlying86->S1
section
open Go.RowKit
def o7 (b:ax):bA:=
 bnd (iM b.aa) λ a=>a
theorem uK (w D V) (a:ax) (f b g d j h e t u y z) (B:bA) (H:Own w D w [blk V [.int .i64 a.aa.bC, .int .u64 ((a.aa.aT:Nat):Int), .int .u64 ((a.aa.bv:Nat):Int), .int .u64 ((a.aa.aL:Nat):Int), .int .u64 ((a.aa.aG:Nat):Int), .slice f a.aa.ah.ls.length b, .slice g a.aa.ak.ls.length d, .slice h a.aa.af.ls.length e, .int .u64 ((a.aa.bi:Nat):Int), .int .u64 ((a.aa.aM:Nat):Int), .string ⟨u3 a.aa.aH.aO⟩, .string ⟨u3 a.aa.aH.aS⟩, .int .u64 ((a.aa.aF.aG:Nat):Int), .int .u64 ((a.aa.aF.bu:Nat):Int), .int .u64 ((a.aa.aF.dA:Nat):Int), .string ⟨u3 a.aa.aF.aB.aO⟩, .string ⟨u3 a.aa.aF.aB.aS⟩, .iface 24 (.pointer (some ⟨y,0,none⟩)), .slice t a.ag.ls.length u, .pointer (some ⟨z,0,none⟩), .pointer none] 80]) (M:Ro w D λ w'=>bM w' 2 f a.aa.ah.ls.length (q0 bL.cells a.aa.ah.ls)) (ah:a.aa.ah.ls.length<=b/\a.aa.ah.ls.length<=9223372036854775807) (n:r8 bg.abs j=a.aa.ak.ls) (N:Ro w D λ w'=>bM w' 2 g a.aa.ak.ls.length (q0 bg.cells j)) (ai:a.aa.ak.ls.length<=d/\a.aa.ak.ls.length<=9223372036854775807) (o:∀ x ∈ j,Ro w D (λ w'=>bM w' 6 x.aJ.A x.aJ.ls.length (q0 aY.cells x.aJ.ls))/\(x.aJ.ls.length<=x.aJ.c/\x.aJ.ls.length<=9223372036854775807)) (O:Ro w D λ w'=>bM w' 1 h a.aa.af.ls.length (q0 (eN .u64) a.aa.af.ls)) (aj:a.aa.af.ls.length<=e/\a.aa.af.ls.length<=9223372036854775807) (aF:a.aa.ah.ls.length<=1000000/\a.aa.ak.ls.length<=1000000/\a.aa.af.ls.length<=1000000) (aG:(∀ x ∈ a.aa.ak.ls,x.aJ.ls.length<=1000000)) (hr:o7 a=B):
    Calls Tryz.prog 11 #[vP V 0] w (dG λ v w'=> ∃ C E F G I J p,v= .agg (iU B C E F G I J).toArray/\Own w D w' [row C B.ah.ls.length E (q0 bL.cells B.ah.ls) 83 2,row F B.ak.ls.length G (q0 bg.cells p) 60 2,sepL (q0 He p),row I B.af.ls.length J (q0 (eN .u64) B.af.ls) 32 1,blk V [vI a.aa.bC,vU a.aa.aT,vU a.aa.bv,vU a.aa.aL,vU a.aa.aG, .slice f a.aa.ah.ls.length b, .slice g a.aa.ak.ls.length d, .slice h a.aa.af.ls.length e,vU a.aa.bi,vU a.aa.aM, .string ⟨u3 a.aa.aH.aO⟩, .string ⟨u3 a.aa.aH.aS⟩,vU a.aa.aF.aG,vU a.aa.aF.bu,vU a.aa.aF.dA, .string ⟨u3 a.aa.aF.aB.aO⟩, .string ⟨u3 a.aa.aF.aB.aS⟩, .iface 24 (vP y 0), .slice t a.ag.ls.length u,vP z 0, .pointer none] 80]/\(r8 bg.abs p=B.ak.ls)):=by
 unfold o7 at hr
 have af:=aW n
 refine cb Tryz.func11 ?_
 refine sr ?_
 refine bW (gU 0 0 0 0 0 none 0 0 none 0 0 none 0 0 0 0 [] [] 0 0 0 [] []) 41 H ?_
 intro aH aI W
 refine ns (Mz rfl (Kz (vP V 0) (Kz (vP V 0) (La (gU a.aa.bC a.aa.aT a.aa.bv a.aa.aL a.aa.aG f a.aa.ah.ls.length b g a.aa.ak.ls.length d h a.aa.af.ls.length e a.aa.bi a.aa.aM a.aa.aH.aO a.aa.aH.aS a.aa.aF.aG a.aa.aF.bu a.aa.aF.dA a.aa.aF.aB.aO a.aa.aF.aB.aS) W 1 D0 D1 ?_))))
 obtain⟨r,K⟩:∃ q,iM a.aa=q:=⟨_,rfl⟩
 obtain⟨aJ,X,l,Y,ay⟩:=Gr W
 refine cl S0 (lQ _ _ a.aa f a.aa.ah.ls.length b g a.aa.ak.ls.length d j h a.aa.af.ls.length e r X rfl (l _ M) e8 n rfl (l _ N) e8 (λ x9 h9=>⟨l _ (o x9 h9).1,(o x9 h9).2⟩) rfl (l _ O) e8 g4 (by first | assumption | exact λ _ h9=>absurd h9 u4 | exact Tk.hops f6) K) ?_
 rintro _ aK ⟨P,Q,R,S,T,U,ak,rfl,Z,L⟩
 have s:=Y _ _ Z
 have aA:=aW L
 have aB:=zr 0 s
 have aC:=zr 1 s
 have aD:=zr 3 s
 have au:=s.pf [4]
 refine bY (iU r P Q R S T U) 0 au D1 ?_
 intro aL aa
 refine nt (rt (GM (oK rfl rfl (GJ (cs:=(iU r P Q R S T U)) D0 D1 ((aa.cls (i:=0) rfl).lit (k:=0) (m:=17) rfl))) ?_))
 have av:=aa.px [] [0] []
 obtain rfl:=zj hr zq1
 exact⟨P,Q,R,S,T,U,ak,rfl,av,L⟩
def dU (b:ax) (e:dM) (f:StoreT) (d:aZ):dH × Int × ax × aZ:=
 if e.az=5 then bnd (lL e) λ k=>if k=0 then if e.jD=b.aa.bC then bnd (iM b.aa) λ l=>bnd (j3 (bJ.mk (dH.mk (D4 []) (D4 []) false) (D4 [])) e b f d) λ a=>if a.1=0 then if(a.2.1.av.aI.ls.length:Int) > 0 then(dH.mk (D4 a.2.1.av.bE.ls) (D4 a.2.1.av.aI.ls) true,0,ax.mk (bA.mk b.aa.bC b.aa.aT b.aa.bv b.aa.aL b.aa.aG (D4 b.aa.ah.ls) (D4 a.2.2.1.aa.ak.ls) (D4 a.2.2.1.aa.af.ls) b.aa.bi b.aa.aM b.aa.aH b.aa.aF) (D4 a.2.2.1.ag.ls),a.2.2.2) else bnd (nM l (bA.mk b.aa.bC b.aa.aT b.aa.bv b.aa.aL b.aa.aG (D4 b.aa.ah.ls) (D4 a.2.2.1.aa.ak.ls) (D4 a.2.2.1.aa.af.ls) b.aa.bi b.aa.aM b.aa.aH b.aa.aF)) λ g=>(dH.mk (D4 a.2.1.av.bE.ls) (D4 a.2.1.av.aI.ls) (!g),0,ax.mk (bA.mk b.aa.bC b.aa.aT b.aa.bv b.aa.aL b.aa.aG (D4 b.aa.ah.ls) (D4 a.2.2.1.aa.ak.ls) (D4 a.2.2.1.aa.af.ls) b.aa.bi b.aa.aM b.aa.aH b.aa.aF) (D4 a.2.2.1.ag.ls),a.2.2.2) else(dH.mk (D4 []) (D4 []) false,a.1,ax.mk (bA.mk b.aa.bC b.aa.aT b.aa.bv b.aa.aL b.aa.aG (D4 b.aa.ah.ls) (D4 a.2.2.1.aa.ak.ls) (D4 a.2.2.1.aa.af.ls) b.aa.bi b.aa.aM b.aa.aH b.aa.aF) (D4 a.2.2.1.ag.ls),a.2.2.2) else(dH.mk (D4 []) (D4 []) false,180,b,d) else(dH.mk (D4 []) (D4 []) false,180,b,d) else if e.az=3 then bnd (lL e) λ h=>if h=0 then if e.jD=b.aa.bC then bnd (iM b.aa) λ i=>bnd (mi (bJ.mk (dH.mk (D4 []) (D4 []) false) (D4 [])) e b f d) λ c=>if c.1=0 then bnd (nM i (bA.mk b.aa.bC b.aa.aT b.aa.bv b.aa.aL b.aa.aG (D4 b.aa.ah.ls) (D4 c.2.2.1.aa.ak.ls) (D4 c.2.2.1.aa.af.ls) c.2.2.1.aa.bi b.aa.aM b.aa.aH b.aa.aF)) λ j=>(dH.mk (D4 c.2.1.av.bE.ls) (D4 []) (!j),0,ax.mk (bA.mk b.aa.bC b.aa.aT b.aa.bv b.aa.aL b.aa.aG (D4 b.aa.ah.ls) (D4 c.2.2.1.aa.ak.ls) (D4 c.2.2.1.aa.af.ls) c.2.2.1.aa.bi b.aa.aM b.aa.aH b.aa.aF) (D4 c.2.2.1.ag.ls),c.2.2.2) else(dH.mk (D4 []) (D4 []) false,c.1,ax.mk (bA.mk b.aa.bC b.aa.aT b.aa.bv b.aa.aL b.aa.aG (D4 b.aa.ah.ls) (D4 c.2.2.1.aa.ak.ls) (D4 c.2.2.1.aa.af.ls) c.2.2.1.aa.bi b.aa.aM b.aa.aH b.aa.aF) (D4 c.2.2.1.ag.ls),c.2.2.2) else(dH.mk (D4 []) (D4 []) false,180,b,d) else(dH.mk (D4 []) (D4 []) false,180,b,d) else(dH.mk (D4 []) (D4 []) false,180,b,d)
theorem jb (w D g0) (a:ax) (I r E t J F u R S N) (b:dM) (O gz z P gB B aM Q gD C Y) (G:StoreT) (V L Z) (y:aZ) (g j d) (r0:dH) (r1) (r2:ax) (r3:aZ) (H:Own w D w [blk g0 [.int .i64 a.aa.bC, .int .u64 ((a.aa.aT:Nat):Int), .int .u64 ((a.aa.bv:Nat):Int), .int .u64 ((a.aa.aL:Nat):Int), .int .u64 ((a.aa.aG:Nat):Int), .slice I a.aa.ah.ls.length r, .slice E a.aa.ak.ls.length t, .slice F a.aa.af.ls.length u, .int .u64 ((a.aa.bi:Nat):Int), .int .u64 ((a.aa.aM:Nat):Int), .string ⟨u3 a.aa.aH.aO⟩, .string ⟨u3 a.aa.aH.aS⟩, .int .u64 ((a.aa.aF.aG:Nat):Int), .int .u64 ((a.aa.aF.bu:Nat):Int), .int .u64 ((a.aa.aF.dA:Nat):Int), .string ⟨u3 a.aa.aF.aB.aO⟩, .string ⟨u3 a.aa.aF.aB.aS⟩, .iface 24 (.pointer (some ⟨Y,0,none⟩)), .slice R a.ag.ls.length S, .pointer (some ⟨Z,0,none⟩), .pointer none] 80,row E a.aa.ak.ls.length t (q0 bg.cells J) 60 2,sepL (q0 He J),row F a.aa.af.ls.length u (q0 (eN .u64) a.aa.af.ls) 32 1,row R a.ag.ls.length S (q0 aR.cells N) 99 4,sepL (q0 G5 N),blk Y [.slice V G.xM.ls.length L] 27,blk Z [.slice g y.ai.ls.length j] 114,row g y.ai.ls.length j (q0 ay.cells d) 164 6,sepL (q0 GU d)]) (aN:Ro w D λ w'=>bM w' 2 I a.aa.ah.ls.length (q0 bL.cells a.aa.ah.ls)) (lu:a.aa.ah.ls.length<=r/\a.aa.ah.ls.length<=9223372036854775807) (X:r8 bg.abs J=a.aa.ak.ls) (aa:r8 aR.abs N=a.ag.ls) (iI:gz=b.aJ.ls.length) (bC:Ro w D λ w'=>bM w' 6 O b.aJ.ls.length (q0 aY.cells b.aJ.ls)) (lv:b.aJ.ls.length<=z/\b.aJ.ls.length<=9223372036854775807) (aO:r8 aP.abs aM=b.aQ.ls) (iJ:gB=b.aQ.ls.length) (bD:Ro w D λ w'=>bM w' 3 P b.aQ.ls.length (q0 aP.cells aM)) (lw:b.aQ.ls.length<=B/\b.aQ.ls.length<=9223372036854775807) (af:∀ x ∈ aM,Ro w D (λ w'=>bM w' 2 x.bq.A x.bq.ls.length (q0 aA.cells x.bq.ls))/\(x.bq.ls.length<=x.bq.c/\x.bq.ls.length<=9223372036854775807)) (iK:gD=b.ah.ls.length) (bE:Ro w D λ w'=>bM w' 2 Q b.ah.ls.length (q0 bL.cells b.ah.ls)) (lC:b.ah.ls.length<=C/\b.ah.ls.length<=9223372036854775807) (bN:Ro w D λ w'=>bM w' 2 V G.xM.ls.length (q0 aA.cells G.xM.ls)) (jv:G.xM.ls.length<=L/\G.xM.ls.length<=9223372036854775807) (M:r8 ay.abs d=y.ai.ls) (oF:Tk a.ag.ls a.aa.ak.ls y.ai.ls) (oG:Gt a.ag.ls) (oH:a.ag.ls.length+a.aa.ak.ls.length<=6) (oI:y.ai.ls.length<=6) (oJ:G.xM.ls.length<=4000/\a.aa.ah.ls.length<=1000/\a.aa.af.ls.length<=999) (oK:b.az=3\/b.az=5\/b.az=6) (oL:b.aJ.ls.length<=140737488355328/\b.aQ.ls.length<=140737488355328/\b.ah.ls.length<=140737488355328) (hr:dU a b G y=(r0,r1,r2,r3)):
    Calls Tryz.prog 9 #[vP g0 0, .agg (ic b.az b.iO b.jD b.gJ b.fG b.iB b.gp b.aT b.aV b.bi b.bv b.aL b.aG b.bu b.xN b.fZ b.aB.aO b.aB.aS O gz z P gB B Q gD C).toArray] w (dG λ v w'=> ∃ gG gH gI gJ ek eu eB dh eD eF eG eH dm eO eP dn,v= .tuple #[.agg #[.slice gG r0.bE.ls.length gH, .slice gI r0.aI.ls.length gJ, .bool r0.bU],vI r1]/\Own w D w' [row gG r0.bE.ls.length gH (q0 bV.cells ek) 47 21,sepL (q0 Hl ek),row gI r0.aI.ls.length gJ (q0 aY.cells r0.aI.ls) 68 6,blk g0 [vI a.aa.bC,vU a.aa.aT,vU a.aa.bv,vU a.aa.aL,vU a.aa.aG, .slice I a.aa.ah.ls.length r, .slice eu r2.aa.ak.ls.length eB, .slice eD r2.aa.af.ls.length eF,vU r2.aa.bi,vU a.aa.aM, .string ⟨u3 a.aa.aH.aO⟩, .string ⟨u3 a.aa.aH.aS⟩,vU a.aa.aF.aG,vU a.aa.aF.bu,vU a.aa.aF.dA, .string ⟨u3 a.aa.aF.aB.aO⟩, .string ⟨u3 a.aa.aF.aB.aS⟩, .iface 24 (vP Y 0), .slice eG r2.ag.ls.length eH,vP Z 0, .pointer none] 80,row eu r2.aa.ak.ls.length eB (q0 bg.cells dh) 60 2,sepL (q0 He dh),row eD r2.aa.af.ls.length eF (q0 (eN .u64) r2.aa.af.ls) 32 1,row eG r2.ag.ls.length eH (q0 aR.cells dm) 99 4,sepL (q0 G5 dm),blk Y [.slice V G.xM.ls.length L] 27,blk Z [.slice eO r3.ai.ls.length eP] 114,row eO r3.ai.ls.length eP (q0 ay.cells dn) 164 6,sepL (q0 GU dn)]/\(r8 bV.abs ek=r0.bE.ls)/\(r8 bg.abs dh=r2.aa.ak.ls)/\(r8 aR.abs dm=r2.ag.ls)/\(r8 ay.abs dn=r3.ai.ls)):=by
 subst iI iJ iK
 have ll:=aW X
 have lm:=aW aa
 have lq:=aW aO
 have jr:=aW M
 have lD:=zr 1 H
 have lF:=zr 3 H
 have lG:=zr 4 H
 have jw:=zr 8 H
 refine cb Tryz.func9 ?_
 refine sr ?_
 refine bW (lN b O z P B Q C) 47 H ?_
 intro dX oN lH
 refine bW [.slice none 0 0, .slice none 0 0, .bool false] 52 lH ?_
 intro iL oO lI
 refine An rfl (Gp ?_)
 refine l5 12 [] (GD GQ) lI ?_
 intro oP lJ
 refine qp dX 0 1 rfl (ql 2 rfl 1 v5 rfl rfl rfl ?_)
 refine GX.do 0 rfl e9 (GV Tryz.call21 rfl ?_ (λ _ _ k=>k))
 refine cb Tryz.func21 ?_
 refine sr (Ar rfl ?_)
 refine WL.do rfl (I8 (κ:=Int) (ν:=Option Nat) kI vF lJ ?_)
 intro dY oQ lK
 refine Hz (Io (k:=3) (v:=(some 39)) lK (qy u6) S1 rfl rfl rfl ?_)
 intro oU lM
 refine Hz (Io (k:=5) (v:=(some 40)) lM (qy u6) S1 rfl rfl rfl ?_)
 intro oV lS
 refine Hz (Io (k:=8) (v:=(some 41)) lS (qy u6) S1 rfl rfl rfl ?_)
 intro oW lT
 refine Hz (Io (k:=10) (v:=(some 42)) lT (qy u6) S1 rfl rfl rfl ?_)
 intro oZ lU
 refine Hz (Io (k:=11) (v:=(some 43)) lU (qy u6) S1 rfl rfl rfl ?_)
 intro o5 lV
 refine Hz (Io (k:=12) (v:=(some 44)) lV (qy u6) S1 rfl rfl rfl ?_)
 intro o6 lW
 refine Mz rfl (An rfl (rt (rs ?_)))
 have dw:=lW.pb [0]
 refine⟨.inr ⟨_,dw⟩, ?_⟩
 by_cases aX:b.az=5
 refine IZ (Good':=λ W=> ∃ L',Own w D W ([blk iL [.slice none 0 0, .slice none 0 0, .bool false] 52,blk dX (lN b O z P B Q C) 47,blk g0 [vI a.aa.bC,vU a.aa.aT,vU a.aa.bv,vU a.aa.aL,vU a.aa.aG, .slice I a.aa.ah.ls.length r, .slice E a.aa.ak.ls.length t, .slice F a.aa.af.ls.length u,vU a.aa.bi,vU a.aa.aM, .string ⟨u3 a.aa.aH.aO⟩, .string ⟨u3 a.aa.aH.aS⟩,vU a.aa.aF.aG,vU a.aa.aF.bu,vU a.aa.aF.dA, .string ⟨u3 a.aa.aF.aB.aO⟩, .string ⟨u3 a.aa.aF.aB.aS⟩, .iface 24 (vP Y 0), .slice R a.ag.ls.length S,vP Z 0, .pointer none] 80,row E a.aa.ak.ls.length t (q0 bg.cells J) 60 2,sepL (q0 He J),row F a.aa.af.ls.length u (q0 (eN .u64) a.aa.af.ls) 32 1,row R a.ag.ls.length S (q0 aR.cells N) 99 4,sepL (q0 G5 N),blk Y [.slice V G.xM.ls.length L] 27,blk Z [.slice g y.ai.ls.length j] 114,row g y.ai.ls.length j (q0 ay.cells d) 164 6,sepL (q0 GU d),oM dY kI vF (fV (fV (fV (fV (fV (fV [] 3 (some 39)) 5 (some 40)) 8 (some 41)) 10 (some 42)) 11 (some 43)) 12 (some 44))]++L')) (λ _ ⟨L',h⟩=>⟨[oM dY kI vF (fV (fV (fV (fV (fV (fV [] 3 (some 39)) 5 (some 40)) 8 (some 41)) 10 (some 42)) 11 (some 43)) 12 (some 44))]++L',h⟩) ⟨_,dw⟩ (qt (v:= .tuple #[.func (.func 40) #[] #[], .bool true]) 3 rfl (λ _ ⟨_,H9⟩=>IE (k:=b.az) (d0:=(none:Option Nat)) (o:=(some (some 40))) (i:=12) H9 rfl (qy u6) S1 (λ _=>by kernel_rfl) rfl rfl (by rw [show b.az=5 from by omega]; rfl)) (qv 4 rfl rfl (qk (.func (.func 40) #[] #[]) 5 rfl (qk (.bool true) 6 rfl (qa 7 rfl rfl (qa 8 rfl rfl (qn (Gs (Gp (Gp ?_))))))))))
 have lX:=dw.px [] [12] []
 refine l5 12 [] (GD (GD GQ)) lX ?_
 intro o7 lY
 refine qv 0 rfl rfl (qk (.bool false) 1 rfl (qv 2 rfl rfl (GG (v:= .agg (lN b O z P B Q C).toArray) (rs:= []) 3 rfl rfl rfl rfl e9 (λ _ ⟨_,H9⟩=>GH rfl (GJ (cs:=(lN b O z P B Q C)) G0 G1 ((H9.cls (i:=1) rfl).lit (k:=0) (m:=21) rfl))) ?_)))
 obtain⟨dZ,aQ⟩:∃ q,lL b=q:=⟨_,rfl⟩
 obtain⟨o8,jy,dE,jA,nC⟩:=Gr lY
 refine H5 4 rfl rfl rfl rfl e9 (GV Tryz.call22 rfl (vo _ _ b O b.aJ.ls.length z P b.aQ.ls.length B aM Q b.ah.ls.length C dZ jy rfl (dE _ bC) e8 aO rfl (dE _ bD) e8 (λ x9 h9=>⟨dE _ (af x9 h9).1,(af x9 h9).2⟩) rfl (dE _ bE) e8 f8 aQ) ?_)
 rintro _ o9 ⟨rfl,jB⟩
 have fZ:=jA _ _ jB
 have nD: ¬ (dZ=0)\/¬ (b.az=3)\/b.aJ.ls.length<=24:=y9 aQ
 refine⟨.inr ⟨_,fZ⟩, ?_⟩
 refine GG (v:= .bool (decide (¬ (dZ=0)))) (rs:= []) 5 rfl rfl rfl rfl e9 (λ _ _=>GN (e:= !(decide (dZ=0))) yk decide_not.symm) (qt (v:= .bool (decide (¬ (dZ=0)))) 6 rfl (λ _ _=>Gm rfl rfl rfl) (qv 7 rfl rfl ?_))
 by_cases T:dZ=0
 refine GG (v:=vP dX 2) (rs:= []) 8 rfl rfl rfl (dF (Ko T)) e9 (λ _ _=>yk) (GG (v:=vI b.jD) (rs:= []) 9 rfl rfl rfl (dF (Ko T)) e9 (λ _ ⟨_,H9⟩=>GH rfl (bS.one v5 (Ho (H9.cls (i:=1) rfl) rfl))) (GG (v:=vP g0 0) (rs:= []) 10 rfl rfl rfl (dF (Ko T)) e9 (λ _ _=>Gv rfl) (GG (v:=vP g0 0) (rs:= []) 11 rfl rfl rfl (dF (Ko T)) e9 (λ _ _=>yk) (GG (v:=vP g0 0) (rs:= []) 12 rfl rfl rfl (dF (Ko T)) e9 (λ _ _=>yk) (GG (v:=vP g0 0) (rs:= []) 13 rfl rfl rfl (dF (Ko T)) e9 (λ _ _=>yk) (GG (v:=vI a.aa.bC) (rs:= []) 14 rfl rfl rfl (dF (Ko T)) e9 (λ _ ⟨_,H9⟩=>GH rfl (bS.one v5 (Ho (H9.cls (i:=2) rfl) rfl))) (GG (v:= .bool (decide (¬ (b.jD=a.aa.bC)))) (rs:= []) 15 rfl rfl rfl (dF (Ko T)) e9 (λ _ _=>GN (e:= !(decide (b.jD=a.aa.bC))) yk decide_not.symm) (qt (v:= .bool (decide (¬ (b.jD=a.aa.bC)))) 16 rfl (λ _ _=>Gm rfl (dF (Ko T)) rfl) (qn (Gs ?_))))))))))
 by_cases d9:b.jD=a.aa.bC
 refine jF (dF (Ko d9)) (sk (sr (Mz rfl (Kz (.agg #[vP g0 0, .slice none 0 0, .slice none 0 0, .bool false, .slice none 0 0]) ?_))))
 refine bW [vP g0 0, .slice none 0 0, .slice none 0 0, .bool false, .slice none 0 0] 92 fZ ?_
 intro aD pg iO
 refine Ar rfl (Mz rfl (Kz (vP g0 0) (Kz (vP g0 0) (La (gU a.aa.bC a.aa.aT a.aa.bv a.aa.aL a.aa.aG I a.aa.ah.ls.length r E a.aa.ak.ls.length t F a.aa.af.ls.length u a.aa.bi a.aa.aM a.aa.aH.aO a.aa.aH.aS a.aa.aF.aG a.aa.aF.bu a.aa.aF.dA a.aa.aF.aB.aO a.aa.aF.aB.aS) iO 3 D0 D1 ?_))))
 obtain⟨au,dI⟩:∃ q,iM a.aa=q:=⟨_,rfl⟩
 obtain⟨pq,jC,jD,jE,eQ⟩:=Gr iO
 refine cl S0 (lQ _ _ a.aa I a.aa.ah.ls.length r E a.aa.ak.ls.length t J F a.aa.af.ls.length u au jC rfl (jD _ aN) e8 X rfl (eQ _ 4 _ rfl bQ) e8 (λ x9 h9=>⟨eQ _ 5 _ rfl (bP (M5.2 ⟨x9,h9,b3⟩) bQ),dJ (φ:=λ _=>_) iO (i:=5) rfl (bP (M5.2 ⟨x9,h9,b3⟩) dN)⟩) rfl (eQ _ 6 _ rfl bQ) e8 g4 (by first | assumption | exact λ _ h9=>absurd h9 u4 | exact Tk.hops f6) dI) ?_
 rintro _ pu ⟨gm,eT,gp,eU,gq,eX,lZ,rfl,jG,gK⟩
 have gu:=jE _ _ jG
 have nE:=aW gK
 have nG:=zr 0 gu
 have nH:=zr 1 gu
 have nI:=zr 3 gu
 refine bW (gU 0 0 0 0 0 none 0 0 none 0 0 none 0 0 0 0 [] [] 0 0 0 [] []) 41 gu ?_
 intro pz pE l6
 refine bY (iU au gm eT gp eU gq eX) 0 l6 D1 ?_
 intro gy jH
 refine nt (Gp (sr (Mz rfl (Mz rfl (La (lN b O z P B Q C) jH 7 G0 G1 ?_)))))
 have l7:Own w D gy (sepL (q0 Hl [])::_):=jH.sepNil
 have l8:Own w D gy (row none 0 0 (q0 bV.cells []) 47 21::_):=l7.free (bX 47 21)
 have l9:Own w D gy (row none 0 0 (q0 aY.cells []) 68 6::_):=l8.free (bX 68 6)
 have ma:Own w D gy (je none 0 0 (q0 di.cells []) 216 2::_):=Own.upQ (l9.free (bX 216 2))
 have mf:=ma.px [9,2,3,1] [] [4,5,6,7,8,10,11]
 obtain⟨⟨bf,l,p,dK⟩,bF⟩:∃ q:Int × bJ × ax × aZ,j3 (bJ.mk (dH.mk (D4 []) (D4 []) false) (D4 [])) b a G y=q:=⟨_,rfl⟩
 obtain⟨pF,jI,bO,iP,mg⟩:=Jn mf
 refine WL.do rfl (Hg Tryz.call40 rfl rfl (vG _ _ aD (bJ.mk (dH.mk (D4 []) (D4 []) false) (D4 [])) none 0 [] none 0 none 0 b O b.aJ.ls.length z P b.aQ.ls.length B aM Q b.ah.ls.length C g0 a I r E t J F u R S N Y G V L Z y g j d bf l p dK jI rfl rfl (bO _ bC) e8 aO rfl (bO _ bD) e8 (λ x9 h9=>⟨bO _ (af x9 h9).1,(af x9 h9).2⟩) rfl (bO _ bE) e8 X aa (bO _ bN) e8 M f6 f6 i8 (by first | omega | exact Tk.n f6) (by first | omega | exact Tk.rows f6) f0 f0 bF) ?_)
 rintro _ nJ ⟨ah,ai,gL,aj,ak,nK,nL,bi,aS,dL,bn,aT,eY,eZ,fe,fo,fq,fu,rfl,iQ,dx,aU,bG,bH⟩
 have aK:=iP _ _ iQ
 have mh:=aW dx
 have mo:=aW aU
 have mq:=aW bG
 have mr:=aW bH
 have mD:=zr 1 aK
 have mE:=zr 3 aK
 have mF:=aK.rowCQ (i:=4) rfl
 have mG:=zr 6 aK
 have mH:=zr 8 aK
 have mI:=zr 9 aK
 have mJ:=zr 13 aK
 refine An rfl (Gp ?_)
 have gM:=aK.px [] [21] []
 refine Gq (Mz rfl (fw (.bool (decide (¬ (bf=0)))) (GN (e:= !(decide (bf=0))) yk decide_not.symm) (nt ?_)))
 by_cases bR:bf=0
 refine jF (dF (Ko bR)) (sk (Gp ?_))
 refine l5 21 [20] (GD GQ) gM ?_
 intro nN dO
 refine qv 0 rfl rfl (qv 1 rfl rfl (qp aD 0 2 rfl (qp aD 1 3 rfl (qp aD 2 4 rfl (ql 5 rfl 0 Tryz.isAgg44 rfl rfl rfl (qk (vJ l.av.aI.ls.length) 6 rfl (qk (.bool (decide ((l.av.aI.ls.length:Int) > 0))) 7 rfl (qv 8 rfl rfl ?_))))))))
 by_cases K:(l.av.aI.ls.length:Int) > 0
 refine Gy (rs:= [[]]) 9 rfl rfl rfl (dT K) e9 (Gy (rs:= [[]]) 10 rfl rfl rfl (dT K) e9 (Gy (rs:= [[]]) 11 rfl rfl rfl (dT K) e9 (Gy (rs:= [[]]) 12 rfl rfl rfl (dT K) e9 (Gy (rs:= [[]]) 13 rfl rfl rfl (dT K) e9 (Gy (rs:= [[]]) 14 rfl rfl rfl (dT K) e9 (Gy (rs:= [[]]) 15 rfl rfl rfl (dT K) e9 (qt (v:= .bool true) 16 rfl (λ _ _=>Gu rfl (dT K) rfl) (qp aD 0 17 rfl (qp aD 1 18 rfl (qp aD 3 19 rfl ?_))))))))))
 refine qe 20 rfl (Do.store (vs:= [.bool true]) (o:=3) dO rfl rfl S2 rfl rfl rfl rfl ?_)
 intro nO jJ
 refine⟨.inl e9, ?_⟩
 refine qn (Gs (Gp ?_))
 have gN:=jJ.px [] [15,16,17,18,19] []
 refine Gq (Mz rfl (Kz (vP aD 0) (Kz (vP aD 1) (La ([.slice ah l.av.bE.ls.length ai, .slice aj l.av.aI.ls.length ak, .bool true]) gN 0 S3 S4 ?_))))
 have jK:=gN.pf [15]
 refine bY [.slice ah l.av.bE.ls.length ai, .slice aj l.av.aI.ls.length ak, .bool true] 0 jK S4 ?_
 intro nP gP
 refine An rfl (rt (GM (fK (vs:= [.agg #[.slice ah l.av.bE.ls.length ai, .slice aj l.av.aI.ls.length ak, .bool true],vI 0]) rfl (bT.cell rfl (GJ (cs:= [.slice ah l.av.bE.ls.length ai, .slice aj l.av.aI.ls.length ak, .bool true]) S3 S4 ((gP.cls (i:=0) rfl).lit (k:=0) (m:=3) rfl)) (bT.tmp rfl bT.nil)) (Kk rfl)) ?_))
 have jL:=gP.px [] [0,1,5] []
 obtain⟨rfl,rfl,rfl,rfl⟩:=iR (zj hr (show _=(dH.mk (D4 l.av.bE.ls) (D4 l.av.aI.ls) true,0,ax.mk (bA.mk a.aa.bC a.aa.aT a.aa.bv a.aa.aL a.aa.aG (D4 a.aa.ah.ls) (D4 p.aa.ak.ls) (D4 p.aa.af.ls) a.aa.bi a.aa.aM a.aa.aH a.aa.aF) (D4 p.ag.ls),dK) from et (ip aX) (et (ae aQ) (et (ip T) (et (ip d9) (et (ae dI) (et (ae bF) (et (ip bR) (ip K)))))))))
 exact⟨ah,ai,aj,ak,gL,bi,aS,dL,bn,aT,eY,eZ,fe,fo,fq,fu,rfl,jL,dx,aU,bG,bH⟩
 refine GG (v:= .agg (iU au gm eT gp eU gq eX).toArray) (rs:= [[]]) 9 rfl rfl rfl (dF K) e9 (λ _ ⟨_,H9⟩=>GH rfl (GJ (cs:=(iU au gm eT gp eU gq eX)) D0 D1 ((H9.cls (i:=15) rfl).lit (k:=0) (m:=17) rfl))) (GG (v:=vP g0 0) (rs:= [[]]) 10 rfl rfl rfl (dF K) e9 (λ _ _=>Gv rfl) (GG (v:=vP g0 0) (rs:= [[]]) 11 rfl rfl rfl (dF K) e9 (λ _ _=>yk) (GG (v:=vP g0 0) (rs:= [[]]) 12 rfl rfl rfl (dF K) e9 (λ _ _=>yk) (GG (v:= .agg (gU a.aa.bC a.aa.aT a.aa.bv a.aa.aL a.aa.aG I a.aa.ah.ls.length r bi p.aa.ak.ls.length aS bn p.aa.af.ls.length aT a.aa.bi a.aa.aM a.aa.aH.aO a.aa.aH.aS a.aa.aF.aG a.aa.aF.bu a.aa.aF.dA a.aa.aF.aB.aO a.aa.aF.aB.aS).toArray) (rs:= [[]]) 13 rfl rfl rfl (dF K) e9 (λ _ ⟨_,H9⟩=>GH rfl (GJ (cs:=(gU a.aa.bC a.aa.aT a.aa.bv a.aa.aL a.aa.aG I a.aa.ah.ls.length r bi p.aa.ak.ls.length aS bn p.aa.af.ls.length aT a.aa.bi a.aa.aM a.aa.aH.aO a.aa.aH.aS a.aa.aF.aG a.aa.aF.bu a.aa.aF.dA a.aa.aF.aB.aO a.aa.aF.aB.aS)) D0 D1 ((H9.cls (i:=5) rfl).lit (k:=0) (m:=17) rfl))) ?_))))
 obtain⟨aF,fA⟩:∃ q,nM au (bA.mk a.aa.bC a.aa.aT a.aa.bv a.aa.aL a.aa.aG (D4 a.aa.ah.ls) (D4 p.aa.ak.ls) (D4 p.aa.af.ls) a.aa.bi a.aa.aM a.aa.aH a.aa.aF)=q:=⟨_,rfl⟩
 obtain⟨nQ,iT,iV,iW,av⟩:=Gr dO
 refine H5 14 rfl rfl rfl (dF K) e9 (GV Tryz.call23 rfl (si _ _ au gm au.ah.ls.length eT gp au.ak.ls.length eU lZ gq au.af.ls.length eX (bA.mk a.aa.bC a.aa.aT a.aa.bv a.aa.aL a.aa.aG (D4 a.aa.ah.ls) (D4 p.aa.ak.ls) (D4 p.aa.af.ls) a.aa.bi a.aa.aM a.aa.aH a.aa.aF) I a.aa.ah.ls.length r bi p.aa.ak.ls.length aS dL bn p.aa.af.ls.length aT aF iT rfl (av _ 16 _ rfl bQ) e8 gK rfl (av _ 17 _ rfl bQ) e8 (λ x9 h9=>⟨av _ 18 _ rfl (bP (M5.2 ⟨x9,h9,b3⟩) bQ),dJ (φ:=λ _=>_) dO (i:=18) rfl (bP (M5.2 ⟨x9,h9,b3⟩) dN)⟩) rfl (av _ 19 _ rfl bQ) e8 rfl (iV _ aN) e8 aU rfl (av _ 6 _ rfl bQ) e8 (λ x9 h9=>⟨av _ 7 _ rfl (bP (M5.2 ⟨x9,h9,b3⟩) bQ),dJ (φ:=λ _=>_) dO (i:=7) rfl (bP (M5.2 ⟨x9,h9,b3⟩) dN)⟩) rfl (av _ 8 _ rfl bQ) e8 fA) ?_)
 rintro _ nR ⟨rfl,iX⟩
 have gQ:=iW _ _ iX
 refine⟨.inr ⟨_,gQ⟩, ?_⟩
 refine GG (v:= .bool (!aF)) (rs:= [[]]) 15 rfl rfl rfl (dF K) e9 (λ _ _=>yk) (qt (v:= .bool (!aF)) 16 rfl (λ _ _=>Gm rfl (dF K) rfl) (qp aD 0 17 rfl (qp aD 1 18 rfl (qp aD 3 19 rfl ?_))))
 refine qe 20 rfl (Do.store (vs:= [.bool (!aF)]) (o:=3) gQ rfl rfl S2 rfl rfl rfl rfl ?_)
 intro nS jM
 refine⟨.inl e9, ?_⟩
 refine qn (Gs (Gp ?_))
 have gT:=jM.px [] [15,16,17,18,19] []
 refine Gq (Mz rfl (Kz (vP aD 0) (Kz (vP aD 1) (La ([.slice ah l.av.bE.ls.length ai, .slice aj l.av.aI.ls.length ak, .bool (!aF)]) gT 0 S3 S4 ?_))))
 have jN:=gT.pf [15]
 refine bY [.slice ah l.av.bE.ls.length ai, .slice aj l.av.aI.ls.length ak, .bool (!aF)] 0 jN S4 ?_
 intro nT gV
 refine An rfl (rt (GM (fK (vs:= [.agg #[.slice ah l.av.bE.ls.length ai, .slice aj l.av.aI.ls.length ak, .bool (!aF)],vI 0]) rfl (bT.cell rfl (GJ (cs:= [.slice ah l.av.bE.ls.length ai, .slice aj l.av.aI.ls.length ak, .bool (!aF)]) S3 S4 ((gV.cls (i:=0) rfl).lit (k:=0) (m:=3) rfl)) (bT.tmp rfl bT.nil)) (Kk rfl)) ?_))
 have jO:=gV.px [] [0,1,5] []
 obtain⟨rfl,rfl,rfl,rfl⟩:=iR (zj hr (show _=(dH.mk (D4 l.av.bE.ls) (D4 l.av.aI.ls) (!aF),0,ax.mk (bA.mk a.aa.bC a.aa.aT a.aa.bv a.aa.aL a.aa.aG (D4 a.aa.ah.ls) (D4 p.aa.ak.ls) (D4 p.aa.af.ls) a.aa.bi a.aa.aM a.aa.aH a.aa.aF) (D4 p.ag.ls),dK) from et (ip aX) (et (ae aQ) (et (ip T) (et (ip d9) (et (ae dI) (et (ae bF) (et (ip bR) (et (iN K) (ae fA))))))))))
 exact⟨ah,ai,aj,ak,gL,bi,aS,dL,bn,aT,eY,eZ,fe,fo,fq,fu,rfl,jO,dx,aU,bG,bH⟩
 refine jT (dT bR) (sr (Kz (.agg #[.slice none 0 0, .slice none 0 0, .bool false]) (Mz rfl ?_)))
 have jP:=gM.pf [20]
 refine bY [.slice none 0 0, .slice none 0 0, .bool false] 0 jP S4 ?_
 intro fB gW
 refine An rfl (rt (tR (GM (fK (vs:= [.agg #[.slice none 0 0, .slice none 0 0, .bool false],vI bf]) rfl (bT.cell rfl (GJ (cs:= [.slice none 0 0, .slice none 0 0, .bool false]) S3 S4 ((gW.cls (i:=0) rfl).lit (k:=0) (m:=3) rfl)) (bT.tmp rfl bT.nil)) (Kk rfl)) ?_)))
 have jQ:Own w D fB (sepL (q0 Hl [])::_):=gW.sepNil
 have jR:Own w D fB (row none 0 0 (q0 bV.cells []) 47 21::_):=jQ.free (bX 47 21)
 have jS:Own w D fB (row none 0 0 (q0 aY.cells []) 68 6::_):=jR.free (bX 68 6)
 have jU:=jS.pk [1,2,0,9,10,11,12,13,14,15,16,17,18]
 obtain⟨rfl,rfl,rfl,rfl⟩:=iR (zj hr (show _=(dH.mk (D4 []) (D4 []) false,bf,ax.mk (bA.mk a.aa.bC a.aa.aT a.aa.bv a.aa.aL a.aa.aG (D4 a.aa.ah.ls) (D4 p.aa.ak.ls) (D4 p.aa.af.ls) a.aa.bi a.aa.aM a.aa.aH a.aa.aF) (D4 p.ag.ls),dK) from et (ip aX) (et (ae aQ) (et (ip T) (et (ip d9) (et (ae dI) (et (ae bF) (iN bR))))))))
 exact⟨none,0,none,0, [],bi,aS,dL,bn,aT,eY,eZ,fe,fo,fq,fu,rfl,jU,rfl,aU,bG,bH⟩
 refine jT (dT d9) (sr (Kz (.agg #[.slice none 0 0, .slice none 0 0, .bool false]) ?_))
 refine bY [.slice none 0 0, .slice none 0 0, .bool false] 0 fZ S4 ?_
 intro fC gX
 refine An rfl (rt (tR (GM (fK (vs:= [.agg #[.slice none 0 0, .slice none 0 0, .bool false],vI 180]) rfl (bT.cell rfl (GJ (cs:= [.slice none 0 0, .slice none 0 0, .bool false]) S3 S4 ((gX.cls (i:=0) rfl).lit (k:=0) (m:=3) rfl)) (bT.tmp rfl bT.nil)) (Kk rfl)) ?_)))
 have jV:Own w D fC (sepL (q0 Hl [])::_):=gX.sepNil
 have jW:Own w D fC (row none 0 0 (q0 bV.cells []) 47 21::_):=jV.free (bX 47 21)
 have jX:Own w D fC (row none 0 0 (q0 aY.cells []) 68 6::_):=jW.free (bX 68 6)
 have jY:=jX.px [1,2] [3,4] []
 obtain⟨rfl,rfl,rfl,rfl⟩:=iR (zj hr (show _=(dH.mk (D4 []) (D4 []) false,180,a,y) from et (ip aX) (et (ae aQ) (et (ip T) (iN d9))))).symm
 exact⟨none,0,none,0, [],E,t,J,F,u,R,S,N,g,j,d,rfl,jY,rfl,X,aa,M⟩
 refine Gy (rs:= []) 8 rfl rfl rfl (dT T) e9 (Gy (rs:= []) 9 rfl rfl rfl (dT T) e9 (Gy (rs:= []) 10 rfl rfl rfl (dT T) e9 (Gy (rs:= []) 11 rfl rfl rfl (dT T) e9 (Gy (rs:= []) 12 rfl rfl rfl (dT T) e9 (Gy (rs:= []) 13 rfl rfl rfl (dT T) e9 (Gy (rs:= []) 14 rfl rfl rfl (dT T) e9 (Gy (rs:= []) 15 rfl rfl rfl (dT T) e9 (qt (v:= .bool true) 16 rfl (λ _ _=>Gu rfl (dT T) rfl) (qn (Gs (jt (sr (Kz (.agg #[.slice none 0 0, .slice none 0 0, .bool false]) ?_)))))))))))))
 refine bY [.slice none 0 0, .slice none 0 0, .bool false] 0 fZ S4 ?_
 intro fD gY
 refine An rfl (rt (tR (GM (fK (vs:= [.agg #[.slice none 0 0, .slice none 0 0, .bool false],vI 180]) rfl (bT.cell rfl (GJ (cs:= [.slice none 0 0, .slice none 0 0, .bool false]) S3 S4 ((gY.cls (i:=0) rfl).lit (k:=0) (m:=3) rfl)) (bT.tmp rfl bT.nil)) (Kk rfl)) ?_)))
 have jZ:Own w D fD (sepL (q0 Hl [])::_):=gY.sepNil
 have j4:Own w D fD (row none 0 0 (q0 bV.cells []) 47 21::_):=jZ.free (bX 47 21)
 have j5:Own w D fD (row none 0 0 (q0 aY.cells []) 68 6::_):=j4.free (bX 68 6)
 have j6:=j5.px [1,2] [3,4] []
 obtain⟨rfl,rfl,rfl,rfl⟩:=iR (zj hr (show _=(dH.mk (D4 []) (D4 []) false,180,a,y) from et (ip aX) (et (ae aQ) (iN T)))).symm
 exact⟨none,0,none,0, [],E,t,J,F,u,R,S,N,g,j,d,rfl,j6,rfl,X,aa,M⟩
 by_cases bU:b.az=3
 refine IZ (Good':=λ W=> ∃ L',Own w D W ([blk iL [.slice none 0 0, .slice none 0 0, .bool false] 52,blk dX (lN b O z P B Q C) 47,blk g0 [vI a.aa.bC,vU a.aa.aT,vU a.aa.bv,vU a.aa.aL,vU a.aa.aG, .slice I a.aa.ah.ls.length r, .slice E a.aa.ak.ls.length t, .slice F a.aa.af.ls.length u,vU a.aa.bi,vU a.aa.aM, .string ⟨u3 a.aa.aH.aO⟩, .string ⟨u3 a.aa.aH.aS⟩,vU a.aa.aF.aG,vU a.aa.aF.bu,vU a.aa.aF.dA, .string ⟨u3 a.aa.aF.aB.aO⟩, .string ⟨u3 a.aa.aF.aB.aS⟩, .iface 24 (vP Y 0), .slice R a.ag.ls.length S,vP Z 0, .pointer none] 80,row E a.aa.ak.ls.length t (q0 bg.cells J) 60 2,sepL (q0 He J),row F a.aa.af.ls.length u (q0 (eN .u64) a.aa.af.ls) 32 1,row R a.ag.ls.length S (q0 aR.cells N) 99 4,sepL (q0 G5 N),blk Y [.slice V G.xM.ls.length L] 27,blk Z [.slice g y.ai.ls.length j] 114,row g y.ai.ls.length j (q0 ay.cells d) 164 6,sepL (q0 GU d),oM dY kI vF (fV (fV (fV (fV (fV (fV [] 3 (some 39)) 5 (some 40)) 8 (some 41)) 10 (some 42)) 11 (some 43)) 12 (some 44))]++L')) (λ _ ⟨L',h⟩=>⟨[oM dY kI vF (fV (fV (fV (fV (fV (fV [] 3 (some 39)) 5 (some 40)) 8 (some 41)) 10 (some 42)) 11 (some 43)) 12 (some 44))]++L',h⟩) ⟨_,dw⟩ (qt (v:= .tuple #[.func (.func 39) #[] #[], .bool true]) 3 rfl (λ _ ⟨_,H9⟩=>IE (k:=b.az) (d0:=(none:Option Nat)) (o:=(some (some 39))) (i:=12) H9 rfl (qy u6) S1 (λ _=>by kernel_rfl) rfl rfl (by rw [show b.az=3 from by omega]; rfl)) (qv 4 rfl rfl (qk (.func (.func 39) #[] #[]) 5 rfl (qk (.bool true) 6 rfl (qa 7 rfl rfl (qa 8 rfl rfl (qn (Gs (Gp (Gp ?_))))))))))
 have kg:=dw.px [] [12] []
 refine l5 12 [] (GD (GD GQ)) kg ?_
 intro nU ko
 refine qv 0 rfl rfl (qk (.bool false) 1 rfl (qv 2 rfl rfl (GG (v:= .agg (lN b O z P B Q C).toArray) (rs:= []) 3 rfl rfl rfl rfl e9 (λ _ ⟨_,H9⟩=>GH rfl (GJ (cs:=(lN b O z P B Q C)) G0 G1 ((H9.cls (i:=1) rfl).lit (k:=0) (m:=21) rfl))) ?_)))
 obtain⟨bq,aI⟩:∃ q,lL b=q:=⟨_,rfl⟩
 obtain⟨nV,iY,bI,iZ,mK⟩:=Gr ko
 refine H5 4 rfl rfl rfl rfl e9 (GV Tryz.call22 rfl (vo _ _ b O b.aJ.ls.length z P b.aQ.ls.length B aM Q b.ah.ls.length C bq iY rfl (bI _ bC) e8 aO rfl (bI _ bD) e8 (λ x9 h9=>⟨bI _ (af x9 h9).1,(af x9 h9).2⟩) rfl (bI _ bE) e8 f8 aI) ?_)
 rintro _ nW ⟨rfl,ja⟩
 have dP:=iZ _ _ ja
 have mM: ¬ (bq=0)\/¬ (b.az=3)\/b.aJ.ls.length<=24:=y9 aI
 refine⟨.inr ⟨_,dP⟩, ?_⟩
 refine GG (v:= .bool (decide (¬ (bq=0)))) (rs:= []) 5 rfl rfl rfl rfl e9 (λ _ _=>GN (e:= !(decide (bq=0))) yk decide_not.symm) (qt (v:= .bool (decide (¬ (bq=0)))) 6 rfl (λ _ _=>Gm rfl rfl rfl) (qv 7 rfl rfl ?_))
 by_cases s:bq=0
 refine GG (v:=vP dX 2) (rs:= []) 8 rfl rfl rfl (dF (Ko s)) e9 (λ _ _=>yk) (GG (v:=vI b.jD) (rs:= []) 9 rfl rfl rfl (dF (Ko s)) e9 (λ _ ⟨_,H9⟩=>GH rfl (bS.one v5 (Ho (H9.cls (i:=1) rfl) rfl))) (GG (v:=vP g0 0) (rs:= []) 10 rfl rfl rfl (dF (Ko s)) e9 (λ _ _=>Gv rfl) (GG (v:=vP g0 0) (rs:= []) 11 rfl rfl rfl (dF (Ko s)) e9 (λ _ _=>yk) (GG (v:=vP g0 0) (rs:= []) 12 rfl rfl rfl (dF (Ko s)) e9 (λ _ _=>yk) (GG (v:=vP g0 0) (rs:= []) 13 rfl rfl rfl (dF (Ko s)) e9 (λ _ _=>yk) (GG (v:=vI a.aa.bC) (rs:= []) 14 rfl rfl rfl (dF (Ko s)) e9 (λ _ ⟨_,H9⟩=>GH rfl (bS.one v5 (Ho (H9.cls (i:=2) rfl) rfl))) (GG (v:= .bool (decide (¬ (b.jD=a.aa.bC)))) (rs:= []) 15 rfl rfl rfl (dF (Ko s)) e9 (λ _ _=>GN (e:= !(decide (b.jD=a.aa.bC))) yk decide_not.symm) (qt (v:= .bool (decide (¬ (b.jD=a.aa.bC)))) 16 rfl (λ _ _=>Gm rfl (dF (Ko s)) rfl) (qn (Gs ?_))))))))))
 by_cases bZ:b.jD=a.aa.bC
 refine jF (dF (Ko bZ)) (sk (sr (Mz rfl (Kz (.agg #[vP g0 0, .slice none 0 0, .slice none 0 0, .bool false, .slice none 0 0]) ?_))))
 refine bW [vP g0 0, .slice none 0 0, .slice none 0 0, .bool false, .slice none 0 0] 92 dP ?_
 intro aG nX fE
 refine Ar rfl (Mz rfl (Kz (vP g0 0) (Kz (vP g0 0) (La (gU a.aa.bC a.aa.aT a.aa.bv a.aa.aL a.aa.aG I a.aa.ah.ls.length r E a.aa.ak.ls.length t F a.aa.af.ls.length u a.aa.bi a.aa.aM a.aa.aH.aO a.aa.aH.aS a.aa.aF.aG a.aa.aF.bu a.aa.aF.dA a.aa.aF.aB.aO a.aa.aF.aB.aS) fE 3 D0 D1 ?_))))
 obtain⟨U,dz⟩:∃ q,iM a.aa=q:=⟨_,rfl⟩
 obtain⟨nY,jc,jd,jf,dA⟩:=Gr fE
 refine cl S0 (lQ _ _ a.aa I a.aa.ah.ls.length r E a.aa.ak.ls.length t J F a.aa.af.ls.length u U jc rfl (jd _ aN) e8 X rfl (dA _ 4 _ rfl bQ) e8 (λ x9 h9=>⟨dA _ 5 _ rfl (bP (M5.2 ⟨x9,h9,b3⟩) bQ),dJ (φ:=λ _=>_) fE (i:=5) rfl (bP (M5.2 ⟨x9,h9,b3⟩) dN)⟩) rfl (dA _ 6 _ rfl bQ) e8 g4 (by first | assumption | exact λ _ h9=>absurd h9 u4 | exact Tk.hops f6) dz) ?_
 rintro _ nZ ⟨dQ,cu,dR,cz,dS,cB,kr,rfl,jg,fF⟩
 have dV:=jf _ _ jg
 have mO:=aW fF
 have mP:=zr 0 dV
 have mQ:=zr 1 dV
 have mR:=zr 3 dV
 refine bW (gU 0 0 0 0 0 none 0 0 none 0 0 none 0 0 0 0 [] [] 0 0 0 [] []) 41 dV ?_
 intro og oh ku
 refine bY (iU U dQ cu dR cz dS cB) 0 ku D1 ?_
 intro fG gZ
 refine nt (Gp (sr (Mz rfl (Mz rfl (La (lN b O z P B Q C) gZ 7 G0 G1 ?_)))))
 have kv:Own w D fG (sepL (q0 Hl [])::_):=gZ.sepNil
 have kw:Own w D fG (row none 0 0 (q0 bV.cells []) 47 21::_):=kv.free (bX 47 21)
 have ky:Own w D fG (je none 0 0 (q0 di.cells []) 216 2::_):=Own.upQ (kw.free (bX 216 2))
 have ib:=ky.px [8,1,2] [] [3,4,5,6,7,9,10]
 have mU:=zr 1 ib
 obtain⟨⟨bu,bv,f,fH⟩,dB⟩:∃ q:Int × bJ × ax × aZ,mi (bJ.mk (dH.mk (D4 []) (D4 []) false) (D4 [])) b a G y=q:=⟨_,rfl⟩
 obtain⟨ol,jh,aJ,ji,mV⟩:=Jm ib
 refine WL.do rfl (Hg Tryz.call39 rfl rfl (wT _ _ aG (bJ.mk (dH.mk (D4 []) (D4 []) false) (D4 [])) none 0 [] none 0 none 0 b O b.aJ.ls.length z P b.aQ.ls.length B aM Q b.ah.ls.length C g0 a I r E t J F u R S N Y G V L Z y g j d bu bv f fH jh rfl (λ _ _=>bM.nil _ _ _) e8 rfl (aJ _ bC) e8 aO rfl (aJ _ bD) e8 (λ x9 h9=>⟨aJ _ (af x9 h9).1,(af x9 h9).2⟩) rfl (aJ _ bE) e8 (aJ _ aN) e8 X aa (aJ _ bN) e8 M f6 f6 i8 (by first | omega | exact Tk.n f6) (by first | omega | exact Tk.rows f6) f0 f0 f0 dB) ?_)
 rintro _ om ⟨cK,cO,kz,oo,oq,cZ,bz,fI,df,bB,ig,ik,il,iq,iw,iy,rfl,jk,fJ,bK,dC,dD⟩
 have aV:=ji _ _ jk
 have mW:=aW fJ
 have mX:=aW bK
 have mY:=aW dC
 have mZ:=aW dD
 have ng:=zr 1 aV
 have ni:=aV.rowCQ (i:=3) rfl
 have nk:=zr 5 aV
 have nu:=zr 7 aV
 have ny:=zr 8 aV
 have nz:=zr 12 aV
 refine An rfl (Gp ?_)
 have iA:=aV.px [] [20] []
 refine Gq (Mz rfl (fw (.bool (decide (¬ (bu=0)))) (GN (e:= !(decide (bu=0))) yk decide_not.symm) (nt ?_)))
 by_cases dW:bu=0
 refine jF (dF (Ko dW)) (sk (Gp ?_))
 refine l5 20 [20] (GD GQ) iA ?_
 intro ou fM
 refine qv 0 rfl rfl (qv 1 rfl rfl (qp aG 0 2 rfl (qp aG 1 3 rfl (qp aG 2 4 rfl (ql 5 rfl 0 Tryz.isAgg44 rfl rfl rfl (qk (vI 0) 6 rfl (qk (.bool false) 7 rfl (qv 8 rfl rfl (GG (v:= .agg (iU U dQ cu dR cz dS cB).toArray) (rs:= [[]]) 9 rfl rfl rfl rfl e9 (λ _ ⟨_,H9⟩=>GH rfl (GJ (cs:=(iU U dQ cu dR cz dS cB)) D0 D1 ((H9.cls (i:=14) rfl).lit (k:=0) (m:=17) rfl))) (GG (v:=vP g0 0) (rs:= [[]]) 10 rfl rfl rfl rfl e9 (λ _ _=>Gv rfl) (GG (v:=vP g0 0) (rs:= [[]]) 11 rfl rfl rfl rfl e9 (λ _ _=>yk) (GG (v:=vP g0 0) (rs:= [[]]) 12 rfl rfl rfl rfl e9 (λ _ _=>yk) (GG (v:= .agg (gU a.aa.bC a.aa.aT a.aa.bv a.aa.aL a.aa.aG I a.aa.ah.ls.length r cZ f.aa.ak.ls.length bz df f.aa.af.ls.length bB f.aa.bi a.aa.aM a.aa.aH.aO a.aa.aH.aS a.aa.aF.aG a.aa.aF.bu a.aa.aF.dA a.aa.aF.aB.aO a.aa.aF.aB.aS).toArray) (rs:= [[]]) 13 rfl rfl rfl rfl e9 (λ _ ⟨_,H9⟩=>GH rfl (GJ (cs:=(gU a.aa.bC a.aa.aT a.aa.bv a.aa.aL a.aa.aG I a.aa.ah.ls.length r cZ f.aa.ak.ls.length bz df f.aa.af.ls.length bB f.aa.bi a.aa.aM a.aa.aH.aO a.aa.aH.aS a.aa.aF.aG a.aa.aF.bu a.aa.aF.dA a.aa.aF.aB.aO a.aa.aF.aB.aS)) D0 D1 ((H9.cls (i:=4) rfl).lit (k:=0) (m:=17) rfl))) ?_)))))))))))))
 obtain⟨aH,fO⟩:∃ q,nM U (bA.mk a.aa.bC a.aa.aT a.aa.bv a.aa.aL a.aa.aG (D4 a.aa.ah.ls) (D4 f.aa.ak.ls) (D4 f.aa.af.ls) f.aa.bi a.aa.aM a.aa.aH a.aa.aF)=q:=⟨_,rfl⟩
 obtain⟨ow,jl,jm,jo,az⟩:=Gr fM
 refine H5 14 rfl rfl rfl rfl e9 (GV Tryz.call23 rfl (si _ _ U dQ U.ah.ls.length cu dR U.ak.ls.length cz kr dS U.af.ls.length cB (bA.mk a.aa.bC a.aa.aT a.aa.bv a.aa.aL a.aa.aG (D4 a.aa.ah.ls) (D4 f.aa.ak.ls) (D4 f.aa.af.ls) f.aa.bi a.aa.aM a.aa.aH a.aa.aF) I a.aa.ah.ls.length r cZ f.aa.ak.ls.length bz fI df f.aa.af.ls.length bB aH jl rfl (az _ 15 _ rfl bQ) e8 fF rfl (az _ 16 _ rfl bQ) e8 (λ x9 h9=>⟨az _ 17 _ rfl (bP (M5.2 ⟨x9,h9,b3⟩) bQ),dJ (φ:=λ _=>_) fM (i:=17) rfl (bP (M5.2 ⟨x9,h9,b3⟩) dN)⟩) rfl (az _ 18 _ rfl bQ) e8 rfl (jm _ aN) e8 bK rfl (az _ 5 _ rfl bQ) e8 (λ x9 h9=>⟨az _ 6 _ rfl (bP (M5.2 ⟨x9,h9,b3⟩) bQ),dJ (φ:=λ _=>_) fM (i:=6) rfl (bP (M5.2 ⟨x9,h9,b3⟩) dN)⟩) rfl (az _ 7 _ rfl bQ) e8 fO) ?_)
 rintro _ oz ⟨rfl,jq⟩
 have iB:=jo _ _ jq
 refine⟨.inr ⟨_,iB⟩, ?_⟩
 refine GG (v:= .bool (!aH)) (rs:= [[]]) 15 rfl rfl rfl rfl e9 (λ _ _=>yk) (qt (v:= .bool (!aH)) 16 rfl (λ _ _=>Gm rfl rfl rfl) (qp aG 0 17 rfl (qp aG 1 18 rfl (qp aG 3 19 rfl ?_))))
 refine qe 20 rfl (Do.store (vs:= [.bool (!aH)]) (o:=3) iB rfl rfl S2 rfl rfl rfl rfl ?_)
 intro oC kC
 refine⟨.inl e9, ?_⟩
 refine qn (Gs (Gp ?_))
 have iC:=kC.px [] [14,15,16,17,18] []
 refine Gq (Mz rfl (Kz (vP aG 0) (Kz (vP aG 1) (La ([.slice cK bv.av.bE.ls.length cO, .slice none 0 0, .bool (!aH)]) iC 0 S3 S4 ?_))))
 have kD:=iC.pf [14]
 refine bY [.slice cK bv.av.bE.ls.length cO, .slice none 0 0, .bool (!aH)] 0 kD S4 ?_
 intro kE iD
 refine An rfl (rt (GM (fK (vs:= [.agg #[.slice cK bv.av.bE.ls.length cO, .slice none 0 0, .bool (!aH)],vI 0]) rfl (bT.cell rfl (GJ (cs:= [.slice cK bv.av.bE.ls.length cO, .slice none 0 0, .bool (!aH)]) S3 S4 ((iD.cls (i:=0) rfl).lit (k:=0) (m:=3) rfl)) (bT.tmp rfl bT.nil)) (Kk rfl)) ?_))
 have kF:Own w D kE (row none 0 0 (q0 aY.cells []) 68 6::_):=iD.free (bX 68 6)
 have kG:=kF.px [3,4] [1,2,5] []
 obtain⟨rfl,rfl,rfl,rfl⟩:=iR (zj hr (show _=(dH.mk (D4 bv.av.bE.ls) (D4 []) (!aH),0,ax.mk (bA.mk a.aa.bC a.aa.aT a.aa.bv a.aa.aL a.aa.aG (D4 a.aa.ah.ls) (D4 f.aa.ak.ls) (D4 f.aa.af.ls) f.aa.bi a.aa.aM a.aa.aH a.aa.aF) (D4 f.ag.ls),fH) from et (iN aX) (et (ip bU) (et (ae aI) (et (ip s) (et (ip bZ) (et (ae dz) (et (ae dB) (et (ip dW) (ae fO))))))))))
 exact⟨cK,cO,none,0,kz,cZ,bz,fI,df,bB,ig,ik,il,iq,iw,iy,rfl,kG,fJ,bK,dC,dD⟩
 refine jT (dT dW) (sr (Kz (.agg #[.slice none 0 0, .slice none 0 0, .bool false]) (Mz rfl ?_)))
 have kH:=iA.pf [19]
 refine bY [.slice none 0 0, .slice none 0 0, .bool false] 0 kH S4 ?_
 intro fP iE
 refine An rfl (rt (tR (GM (fK (vs:= [.agg #[.slice none 0 0, .slice none 0 0, .bool false],vI bu]) rfl (bT.cell rfl (GJ (cs:= [.slice none 0 0, .slice none 0 0, .bool false]) S3 S4 ((iE.cls (i:=0) rfl).lit (k:=0) (m:=3) rfl)) (bT.tmp rfl bT.nil)) (Kk rfl)) ?_)))
 have kJ:Own w D fP (sepL (q0 Hl [])::_):=iE.sepNil
 have kK:Own w D fP (row none 0 0 (q0 bV.cells []) 47 21::_):=kJ.free (bX 47 21)
 have kL:Own w D fP (row none 0 0 (q0 aY.cells []) 68 6::_):=kK.free (bX 68 6)
 have kM:=kL.px [1,2] [3,4,5,6,7,18,19,20,21,22] []
 obtain⟨rfl,rfl,rfl,rfl⟩:=iR (zj hr (show _=(dH.mk (D4 []) (D4 []) false,bu,ax.mk (bA.mk a.aa.bC a.aa.aT a.aa.bv a.aa.aL a.aa.aG (D4 a.aa.ah.ls) (D4 f.aa.ak.ls) (D4 f.aa.af.ls) f.aa.bi a.aa.aM a.aa.aH a.aa.aF) (D4 f.ag.ls),fH) from et (iN aX) (et (ip bU) (et (ae aI) (et (ip s) (et (ip bZ) (et (ae dz) (et (ae dB) (iN dW)))))))))
 exact⟨none,0,none,0, [],cZ,bz,fI,df,bB,ig,ik,il,iq,iw,iy,rfl,kM,rfl,bK,dC,dD⟩
 refine jT (dT bZ) (sr (Kz (.agg #[.slice none 0 0, .slice none 0 0, .bool false]) ?_))
 refine bY [.slice none 0 0, .slice none 0 0, .bool false] 0 dP S4 ?_
 intro fQ iF
 refine An rfl (rt (tR (GM (fK (vs:= [.agg #[.slice none 0 0, .slice none 0 0, .bool false],vI 180]) rfl (bT.cell rfl (GJ (cs:= [.slice none 0 0, .slice none 0 0, .bool false]) S3 S4 ((iF.cls (i:=0) rfl).lit (k:=0) (m:=3) rfl)) (bT.tmp rfl bT.nil)) (Kk rfl)) ?_)))
 have kN:Own w D fQ (sepL (q0 Hl [])::_):=iF.sepNil
 have kP:Own w D fQ (row none 0 0 (q0 bV.cells []) 47 21::_):=kN.free (bX 47 21)
 have kQ:Own w D fQ (row none 0 0 (q0 aY.cells []) 68 6::_):=kP.free (bX 68 6)
 have kR:=kQ.px [1,2] [3,4] []
 obtain⟨rfl,rfl,rfl,rfl⟩:=iR (zj hr (show _=(dH.mk (D4 []) (D4 []) false,180,a,y) from et (iN aX) (et (ip bU) (et (ae aI) (et (ip s) (iN bZ)))))).symm
 exact⟨none,0,none,0, [],E,t,J,F,u,R,S,N,g,j,d,rfl,kR,rfl,X,aa,M⟩
 refine Gy (rs:= []) 8 rfl rfl rfl (dT s) e9 (Gy (rs:= []) 9 rfl rfl rfl (dT s) e9 (Gy (rs:= []) 10 rfl rfl rfl (dT s) e9 (Gy (rs:= []) 11 rfl rfl rfl (dT s) e9 (Gy (rs:= []) 12 rfl rfl rfl (dT s) e9 (Gy (rs:= []) 13 rfl rfl rfl (dT s) e9 (Gy (rs:= []) 14 rfl rfl rfl (dT s) e9 (Gy (rs:= []) 15 rfl rfl rfl (dT s) e9 (qt (v:= .bool true) 16 rfl (λ _ _=>Gu rfl (dT s) rfl) (qn (Gs (jt (sr (Kz (.agg #[.slice none 0 0, .slice none 0 0, .bool false]) ?_)))))))))))))
 refine bY [.slice none 0 0, .slice none 0 0, .bool false] 0 dP S4 ?_
 intro fT iG
 refine An rfl (rt (tR (GM (fK (vs:= [.agg #[.slice none 0 0, .slice none 0 0, .bool false],vI 180]) rfl (bT.cell rfl (GJ (cs:= [.slice none 0 0, .slice none 0 0, .bool false]) S3 S4 ((iG.cls (i:=0) rfl).lit (k:=0) (m:=3) rfl)) (bT.tmp rfl bT.nil)) (Kk rfl)) ?_)))
 have kS:Own w D fT (sepL (q0 Hl [])::_):=iG.sepNil
 have kT:Own w D fT (row none 0 0 (q0 bV.cells []) 47 21::_):=kS.free (bX 47 21)
 have kU:Own w D fT (row none 0 0 (q0 aY.cells []) 68 6::_):=kT.free (bX 68 6)
 have kV:=kU.px [1,2] [3,4] []
 obtain⟨rfl,rfl,rfl,rfl⟩:=iR (zj hr (show _=(dH.mk (D4 []) (D4 []) false,180,a,y) from et (iN aX) (et (ip bU) (et (ae aI) (iN s))))).symm
 exact⟨none,0,none,0, [],E,t,J,F,u,R,S,N,g,j,d,rfl,kV,rfl,X,aa,M⟩
 refine IZ (Good':=λ W=> ∃ L',Own w D W ([blk iL [.slice none 0 0, .slice none 0 0, .bool false] 52,blk dX (lN b O z P B Q C) 47,blk g0 [vI a.aa.bC,vU a.aa.aT,vU a.aa.bv,vU a.aa.aL,vU a.aa.aG, .slice I a.aa.ah.ls.length r, .slice E a.aa.ak.ls.length t, .slice F a.aa.af.ls.length u,vU a.aa.bi,vU a.aa.aM, .string ⟨u3 a.aa.aH.aO⟩, .string ⟨u3 a.aa.aH.aS⟩,vU a.aa.aF.aG,vU a.aa.aF.bu,vU a.aa.aF.dA, .string ⟨u3 a.aa.aF.aB.aO⟩, .string ⟨u3 a.aa.aF.aB.aS⟩, .iface 24 (vP Y 0), .slice R a.ag.ls.length S,vP Z 0, .pointer none] 80,row E a.aa.ak.ls.length t (q0 bg.cells J) 60 2,sepL (q0 He J),row F a.aa.af.ls.length u (q0 (eN .u64) a.aa.af.ls) 32 1,row R a.ag.ls.length S (q0 aR.cells N) 99 4,sepL (q0 G5 N),blk Y [.slice V G.xM.ls.length L] 27,blk Z [.slice g y.ai.ls.length j] 114,row g y.ai.ls.length j (q0 ay.cells d) 164 6,sepL (q0 GU d),oM dY kI vF (fV (fV (fV (fV (fV (fV [] 3 (some 39)) 5 (some 40)) 8 (some 41)) 10 (some 42)) 11 (some 43)) 12 (some 44))]++L')) (λ _ ⟨L',h⟩=>⟨[oM dY kI vF (fV (fV (fV (fV (fV (fV [] 3 (some 39)) 5 (some 40)) 8 (some 41)) 10 (some 42)) 11 (some 43)) 12 (some 44))]++L',h⟩) ⟨_,dw⟩ (qt (v:= .tuple #[.nilFunc, .bool false]) 3 rfl (λ _ ⟨_,H9⟩=>IE (k:=b.az) (d0:=(none:Option Nat)) (o:=(none:Option (Option Nat))) (i:=12) H9 rfl (qy u6) S1 (λ _=>by kernel_rfl) rfl rfl (EF e8 e8 e8 e8 e8 e8)) (qv 4 rfl rfl (qk .nilFunc 5 rfl (qk (.bool false) 6 rfl (qa 7 rfl rfl (qa 8 rfl rfl (qn (Gs (Gp (Gp ?_))))))))))
 have kW:=dw.px [] [12] []
 refine l5 12 [] (GD (GD GQ)) kW ?_
 intro oD kX
 refine qv 0 rfl rfl (qk (.bool true) 1 rfl (qv 2 rfl rfl (Gy (rs:= []) 3 rfl rfl rfl rfl e9 (Gy (rs:= []) 4 rfl rfl rfl rfl e9 (Gy (rs:= []) 5 rfl rfl rfl rfl e9 (qt (v:= .bool true) 6 rfl (λ _ _=>Gu rfl rfl rfl) (qv 7 rfl rfl (Gy (rs:= []) 8 rfl rfl rfl rfl e9 (Gy (rs:= []) 9 rfl rfl rfl rfl e9 (Gy (rs:= []) 10 rfl rfl rfl rfl e9 (Gy (rs:= []) 11 rfl rfl rfl rfl e9 (Gy (rs:= []) 12 rfl rfl rfl rfl e9 (Gy (rs:= []) 13 rfl rfl rfl rfl e9 (Gy (rs:= []) 14 rfl rfl rfl rfl e9 (Gy (rs:= []) 15 rfl rfl rfl rfl e9 (qt (v:= .bool true) 16 rfl (λ _ _=>Gu rfl rfl rfl) (qn (Gs (jt (sr (Kz (.agg #[.slice none 0 0, .slice none 0 0, .bool false]) ?_)))))))))))))))))))))
 refine bY [.slice none 0 0, .slice none 0 0, .bool false] 0 kX S4 ?_
 intro fU iH
 refine An rfl (rt (tR (GM (fK (vs:= [.agg #[.slice none 0 0, .slice none 0 0, .bool false],vI 180]) rfl (bT.cell rfl (GJ (cs:= [.slice none 0 0, .slice none 0 0, .bool false]) S3 S4 ((iH.cls (i:=0) rfl).lit (k:=0) (m:=3) rfl)) (bT.tmp rfl bT.nil)) (Kk rfl)) ?_)))
 have kY:Own w D fU (sepL (q0 Hl [])::_):=iH.sepNil
 have kZ:Own w D fU (row none 0 0 (q0 bV.cells []) 47 21::_):=kY.free (bX 47 21)
 have lc:Own w D fU (row none 0 0 (q0 aY.cells []) 68 6::_):=kZ.free (bX 68 6)
 have lg:=lc.px [1,2] [3,4] []
 obtain⟨rfl,rfl,rfl,rfl⟩:=iR (zj hr (show _=(dH.mk (D4 []) (D4 []) false,180,a,y) from et (iN aX) (iN bU))).symm
 exact⟨none,0,none,0, [],E,t,J,F,u,R,S,N,g,j,d,rfl,lg,rfl,X,aa,M⟩
end
open List renaming Pairwise->S5,drop_left'->S6,eq_nil_of_length_eq_zero->o1,getElem?_eq_getElem->p3,getElem?_eq_some_iff->p2,mem_append_right->u0,mem_iff_getElem?->K6
open Nat renaming le_succ->Q7
def zn (l:List Nat):Prop:=l.Pairwise (· < ·)
theorem AB {l:List Nat} (hs:zn l) {i j a b:Nat} (ha:l[i]? =some a) (hb:l[j]? =some b) (h:i < j):a < b:=by
  obtain⟨c,rfl⟩:=p2.1 ha
  obtain⟨d,rfl⟩:=p2.1 hb
  exact List.pairwise_iff_getElem.1 hs i j c d h
theorem EG (a b:Nat):lu a b=decide (a < b):=by
  unfold lu iP
  simp only [dz]
  rw [if_neg f5]
  exact decide_eq_decide.2 e8
theorem xO {m:List Nat} (hs:zn m) (k:Nat):∀ (f i j:Nat),j - i < f->i<=j->j<=m.length->(∀ q p,m[q]? =some p->q < i->p < k)->(∀ q p,m[q]? =some p->j<=q->¬ p < k)->
    ∃ r,eZ m k f i j=r/\r<=m.length/\(∀ q p,m[q]? =some p->q < r->p < k)/\(∀ q p,m[q]? =some p->r<=q->¬ p < k)
  | 0,i,j,h,_,_,_,_=>e8
  | f+1,i,j,h,hij,hj,hl,hg=>by
    unfold eZ
    by_cases b:(i:Int) < (j:Int)
    . obtain⟨x,hx⟩:∃ x,m[(i+j) / 2]? =some x:=⟨_,p3 e8⟩
      rw [if_pos b,dz,dz,bz hx,EG]
      by_cases a:x < k
      . rw [if_pos (decide_eq_true a)]
        refine xO hs k f _ j e8 e8 hj (λ q p hq hlt=> ?_) hg
        rcases Nat.lt_or_ge q ((i+j) / 2) with e | e
        . exact Nat.lt_trans (AB hs hq hx e) a
        . have:q=(i+j) / 2:=e8
          subst this
          rw [hx] at hq; cases hq
          exact a
      . rw [if_neg (by rw [decide_eq_false a]; decide)]
        refine xO hs k f i _ e8 e8 e8 hl (λ q p hq hge hlt=> ?_)
        rcases Nat.lt_or_ge ((i+j) / 2) q with e | e
        . exact a (Nat.lt_trans (AB hs hx hq e) hlt)
        . have:q=(i+j) / 2:=e8
          subst this
          rw [hx] at hq; cases hq
          exact a hlt
    . rw [if_neg b]
      have:i=j:=e8
      subst this
      exact⟨i,rfl,hj,hl,hg⟩
theorem Fu {m:List Nat} (hs:zn m) (k:Nat):∃ a b f,m=a++b/\(∀ x ∈ a,x < k)/\(∀ x ∈ b,k<=x)/\eO m k=((a.length:Int),f)/\(f=true->k ∈ m)/\(f=false->k ∉ m):=by
  obtain⟨r,l,t,c,g⟩:=xO hs k (E0 ((m.length:Int) - 0)+1) 0 m.length e8 e8 (Nat.le_refl _) (λ q p _ h=>e8) (λ q p hq h=>by have:=(p2.1 hq).1; omega)
  have hlen:(t1 r m).length=r:=by rw [List.length_take]; omega
  have ha:∀ x ∈ t1 r m,x < k:=λ p hp=>by
    obtain⟨j,hj⟩:=K6.1 hp
    have hjr:j < r:=by have:=(p2.1 hj).1; omega
    rw [List.getElem?_take,if_pos hjr] at hj
    exact c j p hj hjr
  have hb:∀ x ∈ r7 r m,k<=x:=λ p hp=>by
    obtain⟨j,hj⟩:=K6.1 hp
    rw [List.getElem?_drop] at hj
    exact Nat.le_of_not_lt (g _ p hj e8)
  have key:∃ f,eO m k=((r:Int),f)/\(f=true->k ∈ m)/\(f=false->k ∉ m):=by
    unfold eO kJ
    simp only [dz,l]
    by_cases i:(r:Int) < ((q5 m:Nat):Int)
    . obtain⟨x,hx⟩:∃ x,m[r]? =some x:=⟨_,p3 e8⟩
      rw [if_pos i,bz hx]
      by_cases d:(x:Int)=(k:Int)
      . rw [if_pos d]
        have:x=k:=e8
        subst this
        exact⟨true,rfl,λ _=>List.mem_of_getElem? hx,λ h=>Bool.noConfusion h⟩
      . rw [if_neg d]
        simp only [Bool.false_eq_true,if_false]
        refine⟨false,rfl,λ h=>Bool.noConfusion h,λ _ hk=> ?_⟩
        obtain⟨j,hj⟩:=K6.1 hk
        rcases Nat.lt_trichotomy j r with e | e | e
        . have:=c j k hj e; omega
        . subst e; rw [hx] at hj; cases hj; exact d rfl
        . have:=AB hs hx hj e
          have:=g r x hx (Nat.le_refl _)
          omega
    . rw [if_neg i]
      refine⟨false,rfl,λ h=>Bool.noConfusion h,λ _ hk=> ?_⟩
      obtain⟨j,hj⟩:=K6.1 hk
      have n:=(p2.1 hj).1
      have:=c j k hj e8
      omega
  obtain⟨f,o,k2,s⟩:=key
  exact⟨t1 r m,r7 r m,f,(List.take_append_drop r m).symm,ha,hb,by rw [hlen]; exact o,k2,s⟩
structure Rs (ws:List bG) (hs:List dD) (fin:List Nat) (rs:List aK):Prop where
  tk:Tk ws hs rs
  gt:Gt ws
  fu:zn fin
theorem Fv:Tk [] [] []:=⟨S5.nil,S5.nil,λ _ h=>absurd h u4,Km _,λ _ h=>absurd h u4,λ _ h=>absurd h u4,Da,λ _ h=>absurd h u4⟩
theorem ed {p r:bA} (h:iM p=r) (a:p.ak.ls= []:=by rfl) (b:p.af.ls= []:=by rfl):Rs [] r.ak.ls r.af.ls []:=by
  have e:p=r:=h
  subst e
  rw [a,b]
  exact⟨Fv,λ _ h=>absurd h u4,S5.nil⟩
def Dn (m:ax) (n:Nat):Prop:=(n < m.aa.bi\/n ∈ m.aa.af.ls)/\¬ Tx m.ag.ls m.aa.ak.ls n
theorem Ck {m r:ax} {low:Nat} (hs:zn m.aa.af.ls) (h:jP m low=r):
    r.ag=m.ag/\r.aa= { m.aa with af:=r.aa.af,bi:=r.aa.bi } /\zn r.aa.af.ls/\q5 r.aa.af.ls<=q5 m.aa.af.ls/\m.aa.bi<=r.aa.bi/\
      (∀ n ∈ m.aa.af.ls,n < r.aa.bi\/n ∈ r.aa.af.ls):=by
  obtain⟨a,b,f,d,ha,hb,hk,_,_⟩:=Fu hs (max m.aa.bi low)
  unfold jP kH at h
  rw [hk] at h
  simp only [dz] at h
  have g:(if(0:Int)=(a.length:Int) then m.aa.af.ls else t1 (E0 0) m.aa.af.ls++r7 (E0 (a.length:Int)) m.aa.af.ls)=b:=by
    rw [d]
    by_cases c:(0:Int)=(a.length:Int)
    . rw [if_pos c]
      have:a= []:=o1 e8
      rw [this]; rfl
    . rw [if_neg c,K7,S6 rfl]; rfl
  rw [g] at h
  subst h
  refine⟨rfl,rfl, ?_, ?_,Nat.le_max_left _ _,λ n hn=> ?_⟩
  . rw [d] at hs; exact(M7.1 hs).2.1
  . show q5 b<=_; rw [d,m8]; omega
  . rw [d] at hn
    rcases P3.1 hn with e | e
    . exact .inl (ha n e)
    . exact .inr e
theorem AZ {m r:ax} {k:Nat} (hs:zn m.aa.af.ls) (h:il m k=r):
    zn r.aa.af.ls/\r.aa.bi=m.aa.bi/\(∀ n ∈ m.aa.af.ls,n ∈ r.aa.af.ls)/\(k < m.aa.bi\/k ∈ r.aa.af.ls)/\q5 r.aa.af.ls<=q5 m.aa.af.ls+1:=by
  unfold il at h
  by_cases c:(k:Int) < (m.aa.bi:Int)
  . rw [if_pos c] at h
    subst h
    exact⟨hs,rfl,λ _ h=>h, .inl e8,Q7 _⟩
  . rw [if_neg c] at h
    obtain⟨a,b,f,d,ha,hb,hk,j,l⟩:=Fu hs k
    rw [hk] at h
    simp only [dz] at h
    cases f with
    | true=>
      rw [if_pos rfl] at h
      subst h
      exact⟨hs,rfl,λ _ h=>h, .inr (j rfl),Q7 _⟩
    | false=>
      rw [if_neg f5] at h
      have hn:=l rfl
      have o:jw m.aa.af.ls (a.length:Int) k=a++k::b:=by
        unfold jw
        rw [K7,d]
        by_cases g:(a.length:Int)=(((a++b).length:Nat):Int)
        . rw [if_pos g]
          have:b= []:=o1 (by rw [m8] at g; omega)
          rw [this]; simp
        . rw [if_neg g,List.take_left' rfl,S6 rfl]
      rw [o] at h
      subst h
      have i:∀ x ∈ b,k < x:=λ x hx=>Nat.lt_of_le_of_ne (hb x hx) λ e=>hn (by rw [d,e]; exact u0 _ hx)
      rw [d] at hs
      obtain⟨p,q,s⟩:=M7.1 hs
      refine⟨M7.2 ⟨p,List.pairwise_cons.2 ⟨i,q⟩,λ x hx y hy=> ?_⟩,rfl,λ n hn=> ?_, .inr (u0 _ b3), ?_⟩
      . rcases List.mem_cons.1 hy with e | e
        . rw [e]; exact ha x hx
        . exact s x hx y e
      . rw [d] at hn
        rcases P3.1 hn with e | e
        . exact List.mem_append_left _ e
        . exact u0 _ (.tail _ e)
      . show q5 (a++k::b)<=_
        rw [d]; simp only [m8,q6]; omega
theorem BI {p:bJ} {m:ax} {s:StoreT} {tb:aZ} {e:Int} {t:bJ} {m':ax} {tb':aZ} (h:fE p m s tb=(e,t,m',tb')) (hk:Tk m.ag.ls m.aa.ak.ls tb.ai.ls) (hg:Gt m.ag.ls) (hli:Li p.bD.ls tb.ai.ls):Fp p m t m' tb':=Dr hk hg hli h
structure Kp (m m':ax) (tb':aZ):Prop where
  rs:Rs m'.ag.ls m'.aa.ak.ls m'.aa.af.ls tb'.ai.ls
  ow:m'.aa.ah=m.aa.ah
  fl:q5 m'.aa.af.ls<=q5 m.aa.af.ls+1
  dn:∀ n,Dn m n->Dn m' n
theorem Kp.same {m:ax} {tb:aZ} (h:Rs m.ag.ls m.aa.ak.ls m.aa.af.ls tb.ai.ls):Kp m m tb:=⟨h,rfl,Q7 _,λ _ h=>h⟩
theorem Dv {p t:bJ} {x:dM} {m m':ax} {s:StoreT} {tb tb':aZ} {e:Int} (hR:Rs m.ag.ls m.aa.ak.ls m.aa.af.ls tb.ai.ls) (hf:q5 m.aa.af.ls<=999) (ho:q5 x.aJ.ls<=24) (hl:p.bD.ls= [])
    (h:mi p x m s tb=(e,t,m',tb')):Kp m m' tb'/\t.av.aI=p.av.aI:=by
  unfold mi at h
  rw [dz] at h
  generalize hr:jP m x.bi=r at h
  obtain⟨O,P,k,Q,R,G⟩:=Ck hR.fu hr
  obtain⟨a,b,f,S,ha,hb,hk,T,H⟩:=Fu k x.aV
  rw [hk] at h
  simp only [dz] at h
  generalize c:ax.mk (bA.mk m.aa.bC m.aa.aT m.aa.bv m.aa.aL m.aa.aG (D4 m.aa.ah.ls) (D4 m.aa.ak.ls) (D4 r.aa.af.ls) r.aa.bi m.aa.aM m.aa.aH m.aa.aF) (D4 m.ag.ls)=m1 at h
  have q:∀ n,Dn m n->n < r.aa.bi\/n ∈ r.aa.af.ls:=λ n hn=>by
    rcases hn.1 with e | e
    . exact .inl e8
    . exact G n e
  have d:Kp m m1 tb:=by
    subst c
    exact⟨⟨hR.tk,hR.gt,k⟩,rfl,by show q5 r.aa.af.ls<=_; omega,λ n hn=>⟨q n hn,hn.2⟩⟩
  have u:m1.ag.ls=m.ag.ls:=by rw [<- c]
  have A:m1.aa.ak.ls=m.aa.ak.ls:=by rw [<- c]
  have I:m1.aa.af.ls=r.aa.af.ls:=by rw [<- c]
  by_cases y:f=true
  . rw [if_pos y] at h
    obtain⟨_,rfl,rfl,rfl⟩:=iR h
    exact⟨d,rfl⟩
  rw [if_neg y] at h
  have hnf:x.aV ∉ r.aa.af.ls:=H (Bool.eq_false_iff.2 y)
  by_cases B:(x.aV:Int) < (r.aa.bi:Int)
  . rw [if_pos B] at h
    obtain⟨_,rfl,rfl,rfl⟩:=iR h
    exact⟨d,rfl⟩
  rw [if_neg B] at h
  cases hh:eY m1 x.aV with
  | mk j bh=>
    rw [hh] at h
    cases bh with
    | true=>
      rw [if_pos rfl] at h
      generalize hv:ji _ _ _ _=v at h
      obtain⟨g,U⟩:=v
      obtain⟨_,rfl,rfl,rfl⟩:=iR h
      exact⟨d,rfl⟩
    | false=>
      simp only [Bool.false_eq_true,if_false] at h
      cases hw:dh m1 x.aV with
      | mk i bw=>
        rw [hw] at h
        cases bw with
        | true=>
          rw [if_pos rfl] at h
          obtain⟨_,rfl,rfl,rfl⟩:=iR h
          exact⟨d,rfl⟩
        | false=>
          simp only [Bool.false_eq_true,if_false] at h
          cases hrf:kv m1 x with
          | true=>
            rw [hrf,if_pos rfl] at h
            obtain⟨_,rfl,rfl,rfl⟩:=iR h
            exact⟨d,rfl⟩
          | false=>
            rw [hrf] at h
            simp only [Bool.false_eq_true,if_false] at h
            cases hlk:ry x.aJ.ls with
            | mk l J=>
              rw [hlk] at h
              by_cases C:J=0
              . rw [if_pos C] at h
                have z:=(yD hrf rfl (by rw [A]; have:=hR.tk.n; omega) (by rw [u]; have:=hR.tk.n; omega) (by rw [I]; omega)).1
                have hll:=zm hlk
                obtain⟨D,E⟩:=Dt (o:=x.aJ.ls) (l:=l) d.rs.tk d.rs.gt hh rfl hw rfl z ho e8
                rw [u,A] at D
                rw [u] at E
                have txn:∀ n,Tx (t1 (E0 i) m.ag.ls++((bG.mk x.aV (D4 x.aJ.ls) (D4 l) 0)::r7 (E0 i) m.ag.ls)) m.aa.ak.ls n->n=x.aV\/Tx m.ag.ls m.aa.ak.ls n:=λ n hn=>by
                  rcases hn with ⟨w,hw,e⟩ | hn
                  . rcases oq.1 hw with g | g
                    . exact .inl (by rw [<- e,g])
                    . exact .inr (.inl ⟨w,g,e⟩)
                  . exact .inr (.inr hn)
                have dead:∀ n,Dn m n->¬ (n=x.aV\/Tx m.ag.ls m.aa.ak.ls n):=λ n hn hc=>by
                  rcases hc with e | e
                  . rcases q n hn with g | g
                    . omega
                    . exact hnf (by rw [<- e]; exact g)
                  . exact hn.2 e
                cases hg:gX p x.aV (ax.mk (bA.mk m.aa.bC m.aa.aT m.aa.bv m.aa.aL m.aa.aG (D4 m.aa.ah.ls) (D4 m.aa.ak.ls) (D4 r.aa.af.ls) r.aa.bi m.aa.aM m.aa.aH m.aa.aF) (D4 (t1 (E0 i) m.ag.ls++((bG.mk x.aV (D4 x.aJ.ls) (D4 l) 0)::r7 (E0 i) m.ag.ls)))) s tb with
                | mk K L=>
                  obtain⟨V,W,M⟩:=L
                  rw [hg] at h
                  have hG:=(sJ D (by rw [hl]; exact Au _) (by rw [hl]; exact λ _ h=>absurd h u4) E hg).1
                  by_cases F:K=0
                  . rw [if_pos F] at h
                    simp only at h
                    generalize hlo:fE _ _ _ _=v at h
                    obtain⟨X,Y,Z,N⟩:=v
                    have hL:=BI hlo hG.tk hG.gt hG.li
                    obtain⟨_,rfl,rfl,rfl⟩:=iR h
                    exact⟨⟨⟨hL.tk,hL.gt,k⟩,rfl,by show q5 r.aa.af.ls<=_; omega,λ n hn=>⟨q n hn,λ hc=>dead n hn (txn n (hG.tx n (hL.tx n hc)))⟩⟩,rfl⟩
                  . rw [if_neg F] at h
                    obtain⟨_,rfl,rfl,rfl⟩:=iR h
                    exact⟨⟨⟨hG.tk,hG.gt,k⟩,rfl,by show q5 r.aa.af.ls<=_; omega,λ n hn=>⟨q n hn,λ hc=>dead n hn (txn n (hG.tx n hc))⟩⟩,rfl⟩
              . rw [if_neg C] at h
                obtain⟨_,rfl,rfl,rfl⟩:=iR h
                exact⟨d,rfl⟩
theorem xP (p:bJ):∀ (o w:List aY),q5 (gV p o w)<=q5 w+q5 o
  | [],w=>Nat.le_add_right _ _
  | x::o,w=>by
    unfold gV
    rw [dz]
    have a:=xP p o (w++ [x])
    have b:=xP p o w
    simp only [m8,q6,List.length_nil] at *
    by_cases c:qi x=true
    . rw [if_pos c]; omega
    . rw [if_neg c]; omega
theorem EH {p:bJ} {o:List aY} {m:ax} {r:bJ} (h:kW p o m=r):q5 r.av.aI.ls<=q5 p.av.aI.ls+q5 o:=by
  unfold kW at h
  rw [dz] at h
  subst h
  exact xP p o p.av.aI.ls
theorem FH {m m1 r:ax} {rs:List aK} {k:Nat} {j:Int} {b:Bool} {hs':List dD} (h:Tk m.ag.ls m.aa.ak.ls rs) (hf:eY m k=(j,b))
    (c:(b=true/\hs'=t1 (E0 j) m.aa.ak.ls++r7 (E0 j+1) m.aa.ak.ls)\/(b=false/\hs'=m.aa.ak.ls)) (hm:m1.ag=m.ag) (hd:eU m1 k=r):
    ∀ n,Tx r.ag.ls hs' n->n≠k/\Tx m.ag.ls m.aa.ak.ls n:=by
  have hw:rO m1.ag.ls:=by rw [hm]; exact h.wu
  rw [wH hw] at hd
  subst hd
  rw [hfind] at hf
  have e:hs'=xL k m.aa.ak.ls:=by
    rcases c with ⟨rfl,e⟩ | ⟨rfl,e⟩
    . rw [e]; exact BG h.hu hf
    . rw [e]; exact(BH (hnot h.hu hf)).symm
  rw [e]
  rintro n (⟨w,hw,a⟩ | ⟨z,hz,a⟩)
  . have d:w ∈ qP k m.ag.ls:=by rw [<- hm]; exact hw
    obtain⟨f,g⟩:=N2.1 d
    exact⟨by rw [<- a]; exact of_decide_eq_true g, .inl ⟨w,f,a⟩⟩
  . obtain⟨f,g⟩:=N2.1 hz
    exact⟨by rw [<- a]; exact of_decide_eq_true g, .inr ⟨z,f,a⟩⟩
theorem BJ {p k l t:bJ} {x:dM} {m m1 r rf g h m' mr:ax} {s:StoreT} {tb d tb':aZ} {e j:Int} {b:Bool} {hs':List dD}
    (hd:eU m1 x.aV=r) (hfi:il g x.aV=rf) (hrl:gu p x.aV mr tb=(l,d)) (hlo:fE k h s d=(e,t,m',tb'))
    (hR:Rs m.ag.ls m.aa.ak.ls m.aa.af.ls tb.ai.ls) (hl:p.bD.ls= []) (hf:eY m x.aV=(j,b))
    (f:(b=true/\hs'=t1 (E0 j) m.aa.ak.ls++r7 (E0 j+1) m.aa.ak.ls)\/(b=false/\hs'=m.aa.ak.ls))
    (hm:m1.ag=m.ag) (c:g.aa.af.ls=m.aa.af.ls/\g.aa.bi=m.aa.bi) (i:k.bD.ls=l.bD.ls) (a:h.ag.ls=r.ag.ls/\h.aa.ak.ls=hs'):
    Kp m (ax.mk (bA.mk m.aa.bC m.aa.aT m.aa.bv m.aa.aL m.aa.aG (D4 m.aa.ah.ls) (D4 m'.aa.ak.ls) (D4 rf.aa.af.ls) m.aa.bi m.aa.aM m.aa.aH m.aa.aF) (D4 m'.ag.ls)) tb'/\
      Dn (ax.mk (bA.mk m.aa.bC m.aa.aT m.aa.bv m.aa.aL m.aa.aG (D4 m.aa.ah.ls) (D4 m'.aa.ak.ls) (D4 rf.aa.af.ls) m.aa.bi m.aa.aM m.aa.aH m.aa.aF) (D4 m'.ag.ls)) x.aV:=by
  obtain⟨u,v,w,z⟩:=AA (hs':=hs') hR.tk hR.gt hf f hm hd hl hrl
  have dx:=FH (hs':=hs') hR.tk hf f hm hd
  obtain⟨y,A,f3,o,q⟩:=AZ (by rw [c.1]; exact hR.fu) hfi
  have hL:=BI hlo (by rw [a.1,a.2]; exact u) (by rw [a.1]; exact v) (by rw [i]; exact w)
  have tx:∀ n,Tx m'.ag.ls m'.aa.ak.ls n->n≠x.aV/\Tx m.ag.ls m.aa.ak.ls n:=λ n hn=>by
    have:=hL.tx n hn
    rw [a.1,a.2] at this
    exact dx n this
  rw [c.1] at f3 q
  rw [c.2] at o
  refine⟨⟨⟨hL.tk,hL.gt,y⟩,rfl,q,λ n hn=>⟨?_,λ hc=>hn.2 (tx n hc).2⟩⟩,⟨o,λ hc=>(tx _ hc).1 rfl⟩⟩
  rcases hn.1 with e | e
  . exact .inl e
  . exact .inr (f3 n e)
theorem A7 {p t:bJ} {x:dM} {m m':ax} {s:StoreT} {tb tb':aZ} {e:Int} (hR:Rs m.ag.ls m.aa.ak.ls m.aa.af.ls tb.ai.ls) (hl:p.bD.ls= []) (hw:p.av.aI.ls= [])
    (h:j3 p x m s tb=(e,t,m',tb')):
    Kp m m' tb'/\q5 t.av.aI.ls<=24/\(t.av.aI.ls≠ []->x.fZ=true/\Tx m.ag.ls m.aa.ak.ls x.aV/\Dn m' x.aV):=by
  unfold j3 at h
  simp only [dz] at h
  cases hf:eY m x.aV with
  | mk j b=>
    rw [hf] at h
    cases b with
    | true=>
      rw [if_pos rfl] at h
      generalize hwr:(if x.fZ=true then _ else p.av.aI.ls)=W at h
      generalize hd:eU _ _=r at h
      generalize hfi:il _ _=rf at h
      generalize hrl:gu _ _ _ _=v at h
      obtain⟨w,l⟩:=v
      generalize hlo:fE _ _ _ _=v at h
      obtain⟨y,A,B,n⟩:=v
      obtain⟨_,rfl,rfl,rfl⟩:=iR h
      obtain⟨o,k2⟩:=BJ hd hfi hrl hlo hR hl hf (.inl ⟨rfl,rfl⟩) rfl ⟨rfl,rfl⟩ rfl ⟨rfl,rfl⟩
      obtain⟨a,z,q,f,hz,ha⟩:∃ a z q,m.aa.ak.ls=a++z::q/\z.aV=x.aV/\List.getD m.aa.ak.ls (E0 j) default=z:=by
        rw [hfind] at hf
        rcases ug hR.tk.hu x.aV with ⟨a,z,q,f,hp,ha,hq,k⟩ | ⟨a,q,f,ha,hq,k⟩
        . rw [k] at hf
          have:j=(a.length:Int):=(congrArg Prod.fst hf).symm
          refine⟨a,z,q,f,hp, ?_⟩
          rw [this,K7,f]
          simp
        . rw [k] at hf; exact Fq (congrArg Prod.snd hf).symm
      have g:z ∈ m.aa.ak.ls:=by rw [f]; exact u0 _ b3
      refine⟨o, ?_,λ hne=>⟨?_, .inr ⟨z,g,hz⟩,k2⟩⟩
      . show q5 W<=24
        rw [<- hwr]
        by_cases c:x.fZ=true
        . rw [if_pos c]
          generalize hcm:kW _ _ _=cm
          have u:=EH hcm
          rw [ha] at u
          have k:=hR.tk.ho z g
          have C:q5 p.av.aI.ls=0:=by rw [hw]; rfl
          simp only at u
          omega
        . rw [if_neg c,hw]; decide
      . by_cases c:x.fZ=true
        . exact c
        . refine(hne ?_).elim
          show W= []
          rw [<- hwr,if_neg c,hw]
    | false=>
      simp only [Bool.false_eq_true,if_false] at h
      cases hwa:dh m x.aV with
      | mk i bw=>
        rw [hwa] at h
        cases bw with
        | true=>
          rw [if_pos rfl] at h
          generalize hd:eU _ _=r at h
          generalize hfi:il _ _=rf at h
          generalize hrl:gu _ _ _ _=v at h
          obtain⟨w,l⟩:=v
          generalize hlo:fE _ _ _ _=v at h
          obtain⟨y,A,B,n⟩:=v
          obtain⟨_,rfl,rfl,rfl⟩:=iR h
          obtain⟨o,k2⟩:=BJ hd hfi hrl hlo hR hl hf (.inr ⟨rfl,rfl⟩) rfl ⟨rfl,rfl⟩ rfl ⟨rfl,rfl⟩
          have d:p.av.aI.ls= []:=hw
          exact⟨o,by show q5 p.av.aI.ls<=24; rw [hw]; decide,λ hne=>(hne d).elim⟩
        | false=>
          simp only [Bool.false_eq_true,if_false] at h
          obtain⟨_,rfl,rfl,rfl⟩:=iR h
          have d:p.av.aI.ls= []:=hw
          exact⟨Kp.same hR,by show q5 p.av.aI.ls<=24; rw [hw]; decide,λ hne=>(hne d).elim⟩
theorem EI {p t:bJ} {x:dM} {m m':ax} {s:StoreT} {tb tb':aZ} {e:Int} (hR:Rs m.ag.ls m.aa.ak.ls m.aa.af.ls tb.ai.ls) (h:j3 p x m s tb=(e,t,m',tb')):m'.aa.bi=m.aa.bi:=by
  unfold j3 at h
  simp only [dz] at h
  cases hf:eY m x.aV with
  | mk j b=>
    rw [hf] at h
    cases b with
    | true=>
      rw [if_pos rfl] at h
      obtain⟨_,rfl,rfl,rfl⟩:=iR h
      rfl
    | false=>
      simp only [Bool.false_eq_true,if_false] at h
      by_cases c:(dh m x.aV).2=true
      . rw [if_pos c] at h
        obtain⟨_,rfl,rfl,rfl⟩:=iR h
        rfl
      . rw [if_neg c] at h
        obtain⟨_,rfl,rfl,rfl⟩:=iR h
        rfl
theorem zo {m m':ax} {x:dM} {s:StoreT} {tb tb':aZ} {d:dH} {e:Int} (hR:Rs m.ag.ls m.aa.ak.ls m.aa.af.ls tb.ai.ls) (hf:q5 m.aa.af.ls<=999)
    (h:dU m x s tb=(d,e,m',tb')):
    Kp m m' tb'/\q5 d.aI.ls<=24/\(d.aI.ls≠ []->x.az=5/\x.fZ=true/\Tx m.ag.ls m.aa.ak.ls x.aV/\Dn m' x.aV):=by
  unfold dU at h
  simp only [dz] at h
  have no:(dH.mk (D4 []) (D4 []) false,(180:Int),m,tb)=(d,e,m',tb')->Kp m m' tb'/\q5 d.aI.ls<=24/\(d.aI.ls≠ []->x.az=5/\x.fZ=true/\Tx m.ag.ls m.aa.ak.ls x.aV/\Dn m' x.aV):=λ h=>by
    obtain⟨rfl,rfl,rfl,rfl⟩:=iR h
    exact⟨Kp.same hR,f5,λ h=>absurd rfl h⟩
  by_cases k:x.az=5
  . rw [if_pos k] at h
    by_cases g:lL x=0
    . rw [if_pos g] at h
      by_cases j:x.jD=m.aa.bC
      . rw [if_pos j] at h
        generalize hdc:j3 _ _ _ _ _=v at h
        obtain⟨l,r,a,f⟩:=v
        obtain⟨b,k2,i⟩:=A7 hR rfl rfl hdc
        have hlow:a.aa.bi=m.aa.bi:=EI hR hdc
        have hk:∀ (mm:ax),mm=ax.mk (bA.mk m.aa.bC m.aa.aT m.aa.bv m.aa.aL m.aa.aG (D4 m.aa.ah.ls) (D4 a.aa.ak.ls) (D4 a.aa.af.ls) m.aa.bi m.aa.aM m.aa.aH m.aa.aF) (D4 a.ag.ls)->Kp m mm f/\(Dn a x.aV->Dn mm x.aV):=λ mm hmm=>by
          subst hmm
          have dd:∀ n,Dn a n->Dn (ax.mk (bA.mk m.aa.bC m.aa.aT m.aa.bv m.aa.aL m.aa.aG (D4 m.aa.ah.ls) (D4 a.aa.ak.ls) (D4 a.aa.af.ls) m.aa.bi m.aa.aM m.aa.aH m.aa.aF) (D4 a.ag.ls)) n:=λ n hn=>⟨by rcases hn.1 with q | q; exact .inl (by rw [hlow] at q; exact q); exact .inr q,hn.2⟩
          exact⟨⟨⟨b.rs.tk,b.rs.gt,b.rs.fu⟩,rfl,b.fl,λ n hn=>dd n (b.dn n hn)⟩,dd x.aV⟩
        by_cases c:l=0
        . rw [if_pos c] at h
          by_cases t:(r.av.aI.ls.length:Int) > 0
          . rw [if_pos t] at h
            obtain⟨rfl,rfl,rfl,rfl⟩:=iR h
            obtain⟨o,p⟩:=hk _ rfl
            exact⟨o,k2,λ hne=>⟨k,(i hne).1,(i hne).2.1,p (i hne).2.2⟩⟩
          . rw [if_neg t] at h
            obtain⟨rfl,rfl,rfl,rfl⟩:=iR h
            obtain⟨o,p⟩:=hk _ rfl
            exact⟨o,k2,λ hne=>⟨k,(i hne).1,(i hne).2.1,p (i hne).2.2⟩⟩
        . rw [if_neg c] at h
          obtain⟨rfl,rfl,rfl,rfl⟩:=iR h
          exact⟨(hk _ rfl).1,Km 24,λ h=>absurd rfl h⟩
      . rw [if_neg j] at h; exact no h
    . rw [if_neg g] at h; exact no h
  . rw [if_neg k] at h
    by_cases c:x.az=3
    . rw [if_pos c] at h
      by_cases g:lL x=0
      . rw [if_pos g] at h
        by_cases j:x.jD=m.aa.bC
        . rw [if_pos j] at h
          generalize hdc:mi _ _ _ _ _=v at h
          obtain⟨l,r,a,f⟩:=v
          have ho:q5 x.aJ.ls<=24:=by
            rcases y9 (x:=x) rfl with q | q | q
            . exact absurd g q
            . exact absurd c q
            . exact q
          obtain⟨b,k2⟩:=Dv hR hf ho rfl hdc
          have hk:Kp m (ax.mk (bA.mk m.aa.bC m.aa.aT m.aa.bv m.aa.aL m.aa.aG (D4 m.aa.ah.ls) (D4 a.aa.ak.ls) (D4 a.aa.af.ls) a.aa.bi m.aa.aM m.aa.aH m.aa.aF) (D4 a.ag.ls)) f:=⟨⟨b.rs.tk,b.rs.gt,b.rs.fu⟩,rfl,b.fl,λ n hn=>⟨(b.dn n hn).1,(b.dn n hn).2⟩⟩
          by_cases c:l=0
          . rw [if_pos c] at h
            obtain⟨rfl,rfl,rfl,rfl⟩:=iR h
            exact⟨hk,Km 24,λ h=>absurd rfl h⟩
          . rw [if_neg c] at h
            obtain⟨rfl,rfl,rfl,rfl⟩:=iR h
            exact⟨hk,Km 24,λ h=>absurd rfl h⟩
        . rw [if_neg j] at h; exact no h
      . rw [if_neg g] at h; exact no h
    . rw [if_neg c] at h; exact no h
theorem nS {m m':ax} {x:dM} {s:StoreT} {tb tb':aZ} {d:dH} {e:Int} (hR:Rs m.ag.ls m.aa.ak.ls m.aa.af.ls tb.ai.ls) (hf:q5 m.aa.af.ls<=999)
    (h:dU m x s tb=(d,e,m',tb')):
    Rs m'.ag.ls m'.aa.ak.ls m'.aa.af.ls tb'.ai.ls/\(q5 m'.aa.ah.ls=q5 m.aa.ah.ls/\q5 m'.aa.af.ls<=q5 m.aa.af.ls+1/\q5 d.aI.ls<=24/\q5 m'.ag.ls+q5 m'.aa.ak.ls<=6):=by
  obtain⟨k,w,_⟩:=zo hR hf h
  exact⟨k.rs,by rw [k.ow],k.fl,w,k.rs.tk.n⟩
theorem g8 {p:Prop}(h:p:=by first | assumption | (dsimp only; exact ed (by assumption))):p:=h
open IntKind renaming u64->F1
open List renaming getD->v1
open _root_.Go.Proofs.Tryz renaming call16->S7,call9->S9,func16->S8,isAgg50->T0,isAgg68->B3,sizeOf68->y6
section
open Go.RowKit
def uY:Bool:=
 bnd (lv (bA.mk 1 0 0 1 0 (D4 ([(bL.mk [] 1),(bL.mk ([109]) 2)])) (D4 []) (D4 []) 0 0 (aj.mk [] []) (iJ.mk 0 0 0 (aj.mk [] [])))) λ p=>if p=0 then bnd (iM (bA.mk 1 0 0 1 0 (D4 ([(bL.mk [] 1),(bL.mk ([109]) 2)])) (D4 []) (D4 []) 0 0 (aj.mk [] []) (iJ.mk 0 0 0 (aj.mk [] [])))) λ a=>bnd (dU (ax.mk (bA.mk a.bC (E0 (F1.wrap ((a.aT:Int)+1))) a.bv a.aL a.aG (D4 a.ah.ls) (D4 a.ak.ls) (D4 a.af.ls) a.bi a.aM a.aH a.aF) (D4 [])) (dM.mk 3 0 1 0 0 0 0 0 5 0 0 1 0 0 0 false (aj.mk [] []) (D4 ([(aY.mk 2 ([97]) ([120]) [] [] 0)])) (D4 []) (D4 [])) (StoreT.mk (D4 [])) (aZ.mk (D4 []))) λ d=>bnd (dU (ax.mk (bA.mk a.bC (E0 (F1.wrap ((a.aT:Int)+1))) a.bv a.aL a.aG (D4 a.ah.ls) (D4 d.2.2.1.aa.ak.ls) (D4 d.2.2.1.aa.af.ls) d.2.2.1.aa.bi a.aM a.aH a.aF) (D4 d.2.2.1.ag.ls)) (dM.mk 3 0 1 0 0 0 0 0 6 0 0 1 0 0 0 false (aj.mk [] []) (D4 ([(aY.mk 1 ([97]) [] [] [] 0)])) (D4 []) (D4 [])) (StoreT.mk (D4 [])) d.2.2.2) λ e=>bnd (dU (ax.mk (bA.mk a.bC (E0 (F1.wrap ((a.aT:Int)+1))) a.bv a.aL a.aG (D4 a.ah.ls) (D4 e.2.2.1.aa.ak.ls) (D4 e.2.2.1.aa.af.ls) e.2.2.1.aa.bi a.aM a.aH a.aF) (D4 e.2.2.1.ag.ls)) (dM.mk 3 0 1 0 0 0 0 0 4 0 0 1 0 0 0 false (aj.mk [] []) (D4 ([(aY.mk 1 ([97]) [] [] [] 0)])) (D4 []) (D4 [])) (StoreT.mk (D4 [])) e.2.2.2) λ b=>bnd (o6 (ax.mk (bA.mk a.bC (E0 (F1.wrap ((a.aT:Int)+1))) a.bv a.aL a.aG (D4 a.ah.ls) (D4 b.2.2.1.aa.ak.ls) (D4 b.2.2.1.aa.af.ls) b.2.2.1.aa.bi a.aM a.aH a.aF) (D4 b.2.2.1.ag.ls))) λ j=>bnd (dU (ax.mk (bA.mk a.bC (E0 (F1.wrap ((a.aT:Int)+1))) a.bv a.aL a.aG (D4 a.ah.ls) (D4 b.2.2.1.aa.ak.ls) (D4 b.2.2.1.aa.af.ls) b.2.2.1.aa.bi a.aM a.aH a.aF) (D4 b.2.2.1.ag.ls)) (dM.mk 5 0 1 0 0 0 0 0 5 0 0 0 0 0 0 true (aj.mk [] []) (D4 []) (D4 []) (D4 [])) (StoreT.mk (D4 [])) b.2.2.2) λ c=>bnd (dU (ax.mk (bA.mk a.bC (E0 (F1.wrap ((a.aT:Int)+1))) a.bv a.aL a.aG (D4 a.ah.ls) (D4 c.2.2.1.aa.ak.ls) (D4 c.2.2.1.aa.af.ls) c.2.2.1.aa.bi a.aM a.aH a.aF) (D4 c.2.2.1.ag.ls)) (dM.mk 3 0 1 0 0 0 0 0 7 0 0 1 0 0 0 false (aj.mk [] []) (D4 ([(aY.mk 2 ([122]) [] [] [] 0)])) (D4 []) (D4 [])) (StoreT.mk (D4 [])) c.2.2.2) λ f=>bnd (dU (ax.mk (bA.mk a.bC (E0 (F1.wrap ((a.aT:Int)+1))) a.bv a.aL a.aG (D4 a.ah.ls) (D4 f.2.2.1.aa.ak.ls) (D4 f.2.2.1.aa.af.ls) f.2.2.1.aa.bi a.aM a.aH a.aF) (D4 f.2.2.1.ag.ls)) (dM.mk 6 1 0 0 0 0 0 0 0 0 0 0 0 0 0 false (aj.mk [] []) (D4 []) (D4 []) (D4 [])) (StoreT.mk (D4 [])) f.2.2.2) λ g=>bnd (o7 (ax.mk (bA.mk a.bC (E0 (F1.wrap ((a.aT:Int)+1))) a.bv a.aL a.aG (D4 a.ah.ls) (D4 g.2.2.1.aa.ak.ls) (D4 g.2.2.1.aa.af.ls) g.2.2.1.aa.bi a.aM a.aH a.aF) (D4 g.2.2.1.ag.ls))) λ i=>if(d.1.bE.ls.length:Int)=1 then bnd (v1 d.1.bE.ls 0 default) λ k=>if k.fG=3 then if d.1.bU=true then if(e.1.bE.ls.length:Int)=1 then bnd (v1 e.1.bE.ls 0 default) λ l=>if l.fG=5 then if(b.1.bE.ls.length:Int)=0 then if(j.length:Int)=1 then if(c.1.aI.ls.length:Int)=1 then if(c.1.bE.ls.length:Int)=2 then bnd (v1 c.1.bE.ls 0 default) λ m=>if m.az=6 then bnd (v1 c.1.bE.ls 1 default) λ h=>if(h.aV:Int)=4 then if(h.aQ.ls.length:Int)=1 then bnd (v1 h.aQ.ls 0 default) λ n=>if n.aN=([120]) then if(f.1.bE.ls.length:Int)=1 then bnd (v1 f.1.bE.ls 0 default) λ o=>if o.fG=4 then if g.2.1=180 then if(i.ak.ls.length:Int)=1 then decide ((i.aT:Int)=1) else false else false else false else false else false else false else false else false else false else false else false else false else false else false else false else false else false else false
theorem A8 (w D r0) (H:Own w D w []) (hr:uY=r0):
    Calls Tryz.prog 6 #[] w (dG λ v w'=>v= .bool r0/\Own w D w' []):=by
 refine cb Tryz.func6 ?_
 refine sr (Ar rfl ?_)
 refine WL.do rfl (GV Tryz.call8 rfl ?_ (λ _ _ k=>k))
 refine cb Tryz.func8 ?_
 refine sr ?_
 refine bW (gU 0 0 0 0 0 none 0 0 none 0 0 none 0 0 0 0 [] [] 0 0 0 [] []) 41 H ?_
 intro uw uy nD
 refine ns (Kz (.agg #[.string ⟨u3 []⟩,vI 1]) (Kz (.agg #[.string ⟨u3 ([109])⟩,vI 2]) ?_))
 refine jE [.string ⟨u3 []⟩,vI 1, .string ⟨u3 ([109])⟩,vI 2] 83 2 2 nD ?_
 intro bF uz iB
 replace iB:=Ha (y:=row bF 2 2 (q0 bL.cells ([(bL.mk [] 1),(bL.mk ([109]) 2)])) 83 2) rfl iB
 refine Kz (.agg (gU 1 0 0 1 0 bF 2 2 none 0 0 none 0 0 0 0 [] [] 0 0 0 [] []).toArray) ?_
 have nE:=iB.pb [0]
 refine bY (gU 1 0 0 1 0 bF 2 2 none 0 0 none 0 0 0 0 [] [] 0 0 0 [] []) 0 nE D1 ?_
 intro uA jF
 refine nt (rt (GM (oK rfl rfl (GJ (cs:=(gU 1 0 0 1 0 bF 2 2 none 0 0 none 0 0 0 0 [] [] 0 0 0 [] [])) D0 D1 ((jF.cls (i:=0) rfl).lit (k:=0) (m:=17) rfl))) (Kz (.agg #[.slice none 0 0]) ?_)))
 refine bW [.slice none 0 0] 27 jF ?_
 intro aO uB nG
 refine Kz (.iface 24 (vP aO 0)) ?_
 refine WL.do rfl (GV Tryz.call7 rfl ?_ (λ _ _ k=>k))
 refine cb Tryz.func7 ?_
 refine Gp ?_
 have nH:=nG.pk [0,2]
 refine Gq ?_
 refine bW (gU 1 0 0 1 0 bF 2 2 none 0 0 none 0 0 0 0 [] [] 0 0 0 [] []) 41 nH ?_
 intro nI uC jG
 refine Az rfl (An rfl (Gp (sr (La (gU 1 0 0 1 0 bF 2 2 none 0 0 none 0 0 0 0 [] [] 0 0 0 [] []) jG 0 D0 D1 ?_))))
 obtain⟨fD,T⟩:∃ q,lv (bA.mk 1 0 0 1 0 (D4 ([(bL.mk [] 1),(bL.mk ([109]) 2)])) (D4 []) (D4 []) 0 0 (aj.mk [] []) (iJ.mk 0 0 0 (aj.mk [] [])))=q:=⟨_,rfl⟩
 obtain⟨uD,jH,rE,jI,jJ⟩:=Gr jG
 refine cl Tryz.call17 (qB _ _ (bA.mk 1 0 0 1 0 (D4 ([(bL.mk [] 1),(bL.mk ([109]) 2)])) (D4 []) (D4 []) 0 0 (aj.mk [] []) (iJ.mk 0 0 0 (aj.mk [] []))) bF 2 2 none 0 0 [] none 0 0 fD jH rfl (jJ _ 2 _ rfl bQ) f7 rfl rfl (λ _ _=>bM.nil _ _ _) f7 (λ _ h9=>absurd h9 u4) rfl (λ _ _=>bM.nil _ _ _) f7 g4 T) ?_
 rintro _ uE ⟨rfl,jK⟩
 have iC:=jI _ _ jK
 refine fw (.bool (decide (¬ (fD=0)))) (GN (e:= !(decide (fD=0))) yk decide_not.symm) (Mz rfl ?_)
 by_cases af:fD=0
 refine gw (.iface 24 (vP aO 0)) (dF (Ko af)) (Gv rfl) (gw (.bool false) (dF (Ko af)) yk (fw (.bool false) (Gm rfl (dF (Ko af)) rfl) (nt (jf (sk (sr (La (gU 1 0 0 1 0 bF 2 2 none 0 0 none 0 0 0 0 [] [] 0 0 0 [] []) iC 0 D0 D1 ?_)))))))
 obtain⟨a,K⟩:∃ q,iM (bA.mk 1 0 0 1 0 (D4 ([(bL.mk [] 1),(bL.mk ([109]) 2)])) (D4 []) (D4 []) 0 0 (aj.mk [] []) (iJ.mk 0 0 0 (aj.mk [] [])))=q:=⟨_,rfl⟩
 obtain⟨uF,jL,rF,jM,jN⟩:=Gr iC
 refine cl Tryz.call18 (lQ _ _ (bA.mk 1 0 0 1 0 (D4 ([(bL.mk [] 1),(bL.mk ([109]) 2)])) (D4 []) (D4 []) 0 0 (aj.mk [] []) (iJ.mk 0 0 0 (aj.mk [] []))) bF 2 2 none 0 0 [] none 0 0 a jL rfl (jN _ 2 _ rfl bQ) f7 rfl rfl (λ _ _=>bM.nil _ _ _) f7 (λ _ h9=>absurd h9 u4) rfl (λ _ _=>bM.nil _ _ _) f7 g4 (by first | assumption | exact λ _ h9=>absurd h9 u4 | exact Tk.hops f6) K) ?_
 rintro _ uG ⟨bv,aB,iD,iE,iF,iG,nJ,rfl,jO,fG⟩
 have fE:=jM _ _ jO
 have rG:=aW fG
 have rH:=zr 0 fE
 have rJ:=zr 1 fE
 have rM:=zr 3 fE
 have rO:a.ah.ls.length=2:=congrArg (λ q=>q.ah.ls.length) K.symm
 have rP:a.ak.ls.length=0:=congrArg (λ q=>q.ak.ls.length) K.symm
 have rQ:a.af.ls.length=0:=congrArg (λ q=>q.af.ls.length) K.symm
 refine Mz rfl ?_
 refine WL.do rfl (GV Tryz.call19 rfl ?_ (λ _ _ k=>k))
 refine cb Tryz.func19 ?_
 refine sr (Ar rfl (Kz (.agg #[.slice none 0 0]) ?_))
 refine bW [.slice none 0 0] 114 fE ?_
 intro bB uI nK
 refine An rfl (rt (rs (Kz (.agg #[vI a.bC,vU a.aT,vU a.bv,vU a.aL,vU a.aG, .slice bv a.ah.ls.length aB, .slice iD a.ak.ls.length iE, .slice iF a.af.ls.length iG,vU a.bi,vU a.aM, .string ⟨u3 a.aH.aO⟩, .string ⟨u3 a.aH.aS⟩,vU a.aF.aG,vU a.aF.bu,vU a.aF.dA, .string ⟨u3 a.aF.aB.aO⟩, .string ⟨u3 a.aF.aB.aS⟩, .iface 24 (vP aO 0), .slice none 0 0,vP bB 0, .pointer none]) ?_)))
 refine bW [vI a.bC,vU a.aT,vU a.bv,vU a.aL,vU a.aG, .slice bv a.ah.ls.length aB, .slice iD a.ak.ls.length iE, .slice iF a.af.ls.length iG,vU a.bi,vU a.aM, .string ⟨u3 a.aH.aO⟩, .string ⟨u3 a.aH.aS⟩,vU a.aF.aG,vU a.aF.bu,vU a.aF.dA, .string ⟨u3 a.aF.aB.aO⟩, .string ⟨u3 a.aF.aB.aS⟩, .iface 24 (vP aO 0), .slice none 0 0,vP bB 0, .pointer none] 80 nK ?_
 intro aH uJ jP
 refine Ar rfl (Mz rfl (Kz (vP aH 0) (Kz (vP aH 0) (Kz (vP aH 1) (Lz (vU a.aT) jP 0 C4 (fw (.int .u64 ((E0 (F1.wrap ((a.aT:Int)+1)):Nat):Int)) (Gw (e:=F1.wrap ((a.aT:Int)+1)) yk (kM _)) (Kz (vP aH 0) (Kz (vP aH 0) (Kz (vP aH 1) ?_)))))))))
 refine bY [.int .u64 ((E0 (F1.wrap ((a.aT:Int)+1)):Nat):Int)] 1 jP Tryz.sizeOf32 ?_
 intro uL jQ
 refine nt (Gp (sr (Kz (vP nI 6) (Lz (.slice none 0 0) jQ 6 Tryz.isAgg34 (Kz (vI 0) (Mn rfl (bo (IV 200 (Gp ?_)))))))))
 have nL:=jQ.px [] [6] []
 refine Gq (Kz (.bool false) (nt (Gp (jf (Wp.exit (GK (GK (GR (Gs (sr (Mz rfl (Az rfl (An rfl (rt (GM (j6 rfl rfl rfl) (Mz rfl (Kz (vP aH 0) (Kz (vI 0) (Az rfl (An rfl (Gp (Gp ?_))))))))))))))))))))))
 have nM:=nL.px [] [7] []
 refine Gq (Mz rfl (Kz (.bool false) (Mz rfl (gw (vI 0) rfl (Gv rfl) (Gz (.bool false) rfl (fw (.bool false) (Gm rfl rfl rfl) (nt (jf (sk (sr (Mz rfl (Kz (.agg #[vI 2, .string ⟨u3 ([97])⟩, .string ⟨u3 ([120])⟩, .string ⟨u3 []⟩, .string ⟨u3 []⟩,vI 0]) ?_))))))))))))
 refine WL.do rfl (GV S7 rfl ?_ (λ _ _ k=>k))
 refine cb S8 ?_
 refine sr ?_
 refine bW [vI 2, .string ⟨u3 ([97])⟩, .string ⟨u3 ([120])⟩, .string ⟨u3 []⟩, .string ⟨u3 []⟩,vI 0] 68 nM ?_
 intro uM uN nN
 refine bW (ic 0 0 0 0 0 0 0 0 0 0 0 0 0 0 0 false [] [] none 0 0 none 0 0 none 0 0) 47 nN ?_
 intro uO uP jR
 refine ns (Mz rfl (La ([vI 2, .string ⟨u3 ([97])⟩, .string ⟨u3 ([120])⟩, .string ⟨u3 []⟩, .string ⟨u3 []⟩,vI 0]) jR 1 B3 y6 ?_))
 refine jE [vI 2, .string ⟨u3 ([97])⟩, .string ⟨u3 ([120])⟩, .string ⟨u3 []⟩, .string ⟨u3 []⟩,vI 0] 68 6 1 jR ?_
 intro dm uQ iH
 replace iH:=Ha (y:=row dm 1 1 (q0 aY.cells ([(aY.mk 2 ([97]) ([120]) [] [] 0)])) 68 6) rfl iH
 refine Kz (.agg (ic 3 0 1 0 0 0 0 0 5 0 0 1 0 0 0 false [] [] dm 1 1 none 0 0 none 0 0).toArray) ?_
 have nO:=iH.pf [1]
 refine bY (ic 3 0 1 0 0 0 0 0 5 0 0 1 0 0 0 false [] [] dm 1 1 none 0 0 none 0 0) 0 nO G1 ?_
 intro fF jS
 refine nt (rt (GM (oK rfl rfl (GJ (cs:=(ic 3 0 1 0 0 0 0 0 5 0 0 1 0 0 0 false [] [] dm 1 1 none 0 0 none 0 0)) G0 G1 ((jS.cls (i:=0) rfl).lit (k:=0) (m:=21) rfl))) ?_))
 have nP:Own w D fF (sepL (q0 G5 [])::_):=jS.sepNil
 have nQ:Own w D fF (row none 0 0 (q0 aR.cells []) 99 4::_):=nP.free (bX 99 4)
 have nR:Own w D fF (sepL (q0 GU [])::_):=nQ.sepNil
 have nT:Own w D fF (row none 0 0 (q0 ay.cells []) 164 6::_):=nR.free (bX 164 6)
 have iI:=nT.pf [7,10,11,12,2,3,13,8]
 have nU:=zr 13 iI
 have nV:=zr 4 iI
 obtain⟨⟨ag,fH,N,bI⟩,j⟩:∃ q:dH × Int × ax × aZ,dU (ax.mk (bA.mk a.bC (E0 (F1.wrap ((a.aT:Int)+1))) a.bv a.aL a.aG (D4 a.ah.ls) (D4 a.ak.ls) (D4 a.af.ls) a.bi a.aM a.aH a.aF) (D4 [])) (dM.mk 3 0 1 0 0 0 0 0 5 0 0 1 0 0 0 false (aj.mk [] []) (D4 ([(aY.mk 2 ([97]) ([120]) [] [] 0)])) (D4 []) (D4 [])) (StoreT.mk (D4 [])) (aZ.mk (D4 []))=q:=⟨_,rfl⟩
 obtain⟨rR,iK,nW,iL,dn⟩:=Ie iI
 refine cl S9 (jb _ _ aH (ax.mk (bA.mk a.bC (E0 (F1.wrap ((a.aT:Int)+1))) a.bv a.aL a.aG (D4 a.ah.ls) (D4 a.ak.ls) (D4 a.af.ls) a.bi a.aM a.aH a.aF) (D4 [])) bv aB iD iE nJ iF iG none 0 [] (dM.mk 3 0 1 0 0 0 0 0 5 0 0 1 0 0 0 false (aj.mk [] []) (D4 ([(aY.mk 2 ([97]) ([120]) [] [] 0)])) (D4 []) (D4 [])) dm 1 1 none 0 0 [] none 0 0 aO (StoreT.mk (D4 [])) none 0 bB (aZ.mk (D4 [])) none 0 [] ag fH N bI iK (dn _ 3 _ rfl bQ) e8 fG rfl rfl (dn _ 1 _ rfl bQ) f7 rfl rfl (λ _ _=>bM.nil _ _ _) f7 (λ _ h9=>absurd h9 u4) rfl (λ _ _=>bM.nil _ _ _) f7 (λ _ _=>bM.nil _ _ _) e8 rfl (by first | assumption | exact Rs.tk f6 | (dsimp only; exact(ed f6).tk)) (by first | assumption | exact Rs.gt f6 | (dsimp only; exact(ed f6).gt)) (by first | omega | exact Tk.n f6 | exact(Rs.tk f6).n | (dsimp only; exact(ed f6).tk.n)) (by first | omega | exact Tk.rows f6 | exact(Rs.tk f6).rows | (dsimp only; exact(ed f6).tk.rows)) f0 f0 f0 j) ?_
 rintro _ rT ⟨aJ,cO,fI,fJ,jT,jU,jV,jW,jX,jY,jZ,j3,j4,j5,kg,ko,rfl,iO,dw,dx,dz,dA⟩
 have aS:=iL _ _ iO
 have nX:=aW dw
 have nY:=aW dx
 have nZ:=aW dz
 have og:=aW dA
 have oh:=zr 0 aS
 have ol:=zr 2 aS
 have om:=zr 4 aS
 have oo:=zr 6 aS
 have oq:=zr 7 aS
 have ou:=zr 11 aS
 obtain⟨dB,dC⟩:=nS (m:=(ax.mk (bA.mk a.bC (E0 (F1.wrap ((a.aT:Int)+1))) a.bv a.aL a.aG (D4 a.ah.ls) (D4 a.ak.ls) (D4 a.af.ls) a.bi a.aM a.aH a.aF) (D4 []))) (tb:=(aZ.mk (D4 []))) g8 f9 j
 replace dB:Rs N.ag.ls N.aa.ak.ls N.aa.af.ls bI.ai.ls:=dB
 replace dC:N.aa.ah.ls.length=a.ah.ls.length/\N.aa.af.ls.length<=a.af.ls.length+1/\ag.aI.ls.length<=24/\N.ag.ls.length+N.aa.ak.ls.length<=6:=dC
 refine Mz rfl (Kz (.agg #[.slice aJ ag.bE.ls.length cO, .slice fI ag.aI.ls.length fJ, .bool ag.bU]) (Kz (vI fH) ?_))
 refine bW [.slice none 0 0, .slice none 0 0, .bool false] 52 aS ?_
 intro dD rU kr
 refine bY [.slice aJ ag.bE.ls.length cO, .slice fI ag.aI.ls.length fJ, .bool ag.bU] 0 kr S4 ?_
 intro rV ku
 refine An rfl (Gp ?_)
 have kv:=ku.px [] [14,15,16] []
 refine Gq (Mz rfl (Kz (.agg #[vI 1, .string ⟨u3 ([97])⟩, .string ⟨u3 []⟩, .string ⟨u3 []⟩, .string ⟨u3 []⟩,vI 0]) ?_))
 refine WL.do rfl (GV S7 rfl ?_ (λ _ _ k=>k))
 refine cb S8 ?_
 refine sr ?_
 refine bW [vI 1, .string ⟨u3 ([97])⟩, .string ⟨u3 []⟩, .string ⟨u3 []⟩, .string ⟨u3 []⟩,vI 0] 68 kv ?_
 intro rW rX kw
 refine bW (ic 0 0 0 0 0 0 0 0 0 0 0 0 0 0 0 false [] [] none 0 0 none 0 0 none 0 0) 47 kw ?_
 intro rY rZ fK
 refine ns (Mz rfl (La ([vI 1, .string ⟨u3 ([97])⟩, .string ⟨u3 []⟩, .string ⟨u3 []⟩, .string ⟨u3 []⟩,vI 0]) fK 1 B3 y6 ?_))
 refine jE [vI 1, .string ⟨u3 ([97])⟩, .string ⟨u3 []⟩, .string ⟨u3 []⟩, .string ⟨u3 []⟩,vI 0] 68 6 1 fK ?_
 intro bJ r9 dE
 replace dE:=Ha (y:=row bJ 1 1 (q0 aY.cells ([(aY.mk 1 ([97]) [] [] [] 0)])) 68 6) rfl dE
 refine Kz (.agg (ic 3 0 1 0 0 0 0 0 6 0 0 1 0 0 0 false [] [] bJ 1 1 none 0 0 none 0 0).toArray) ?_
 have ky:=dE.pf [1]
 refine bY (ic 3 0 1 0 0 0 0 0 6 0 0 1 0 0 0 false [] [] bJ 1 1 none 0 0 none 0 0) 0 ky G1 ?_
 intro si fM
 refine nt (rt (GM (oK rfl rfl (GJ (cs:=(ic 3 0 1 0 0 0 0 0 6 0 0 1 0 0 0 false [] [] bJ 1 1 none 0 0 none 0 0)) G0 G1 ((fM.cls (i:=0) rfl).lit (k:=0) (m:=21) rfl))) ?_))
 have fP:=fM.pb [0,1,2,3,4,5,6,17]
 have ow:=zr 17 fP
 obtain⟨⟨ak,fQ,O,bK⟩,l⟩:∃ q:dH × Int × ax × aZ,dU (ax.mk (bA.mk a.bC (E0 (F1.wrap ((a.aT:Int)+1))) a.bv a.aL a.aG (D4 a.ah.ls) (D4 N.aa.ak.ls) (D4 N.aa.af.ls) N.aa.bi a.aM a.aH a.aF) (D4 N.ag.ls)) (dM.mk 3 0 1 0 0 0 0 0 6 0 0 1 0 0 0 false (aj.mk [] []) (D4 ([(aY.mk 1 ([97]) [] [] [] 0)])) (D4 []) (D4 [])) (StoreT.mk (D4 [])) bI=q:=⟨_,rfl⟩
 obtain⟨sj,iP,oz,iQ,dK⟩:=Ie fP
 refine cl S9 (jb _ _ aH (ax.mk (bA.mk a.bC (E0 (F1.wrap ((a.aT:Int)+1))) a.bv a.aL a.aG (D4 a.ah.ls) (D4 N.aa.ak.ls) (D4 N.aa.af.ls) N.aa.bi a.aM a.aH a.aF) (D4 N.ag.ls)) bv aB jU jV jW jX jY jZ j3 j4 (dM.mk 3 0 1 0 0 0 0 0 6 0 0 1 0 0 0 false (aj.mk [] []) (D4 ([(aY.mk 1 ([97]) [] [] [] 0)])) (D4 []) (D4 [])) bJ 1 1 none 0 0 [] none 0 0 aO (StoreT.mk (D4 [])) none 0 bB bI j5 kg ko ak fQ O bK iP (dK _ 7 _ rfl bQ) e8 dx dz rfl (dK _ 1 _ rfl bQ) f7 rfl rfl (λ _ _=>bM.nil _ _ _) f7 (λ _ h9=>absurd h9 u4) rfl (λ _ _=>bM.nil _ _ _) f7 (λ _ _=>bM.nil _ _ _) e8 dA (by first | assumption | exact Rs.tk f6 | (dsimp only; exact(ed f6).tk)) (by first | assumption | exact Rs.gt f6 | (dsimp only; exact(ed f6).gt)) (by first | omega | exact Tk.n f6 | exact(Rs.tk f6).n | (dsimp only; exact(ed f6).tk.n)) (by first | omega | exact Tk.rows f6 | exact(Rs.tk f6).rows | (dsimp only; exact(ed f6).tk.rows)) f0 f0 f0 l) ?_
 rintro _ su ⟨aK,cZ,fT,fU,kz,kC,kD,kE,kF,kG,kH,kI,kJ,kK,kL,kN,rfl,iR,dL,dO,dP,dQ⟩
 have aT:=iQ _ _ iR
 have oC:=aW dL
 have oD:=aW dO
 have oF:=aW dP
 have oG:=aW dQ
 have oH:=zr 0 aT
 have oI:=zr 2 aT
 have oJ:=zr 4 aT
 have oL:=zr 6 aT
 have oM:=zr 7 aT
 have oN:=zr 11 aT
 obtain⟨dR,dS⟩:=nS (m:=(ax.mk (bA.mk a.bC (E0 (F1.wrap ((a.aT:Int)+1))) a.bv a.aL a.aG (D4 a.ah.ls) (D4 N.aa.ak.ls) (D4 N.aa.af.ls) N.aa.bi a.aM a.aH a.aF) (D4 N.ag.ls))) (tb:=bI) g8 f9 l
 replace dR:Rs O.ag.ls O.aa.ak.ls O.aa.af.ls bK.ai.ls:=dR
 replace dS:O.aa.ah.ls.length=a.ah.ls.length/\O.aa.af.ls.length<=N.aa.af.ls.length+1/\ak.aI.ls.length<=24/\O.ag.ls.length+O.aa.ak.ls.length<=6:=dS
 refine Mz rfl (Kz (.agg #[.slice aK ak.bE.ls.length cZ, .slice fT ak.aI.ls.length fU, .bool ak.bU]) (Kz (vI fQ) ?_))
 refine bW [.slice none 0 0, .slice none 0 0, .bool false] 52 aT ?_
 intro fV sw kP
 refine bY [.slice aK ak.bE.ls.length cZ, .slice fT ak.aI.ls.length fU, .bool ak.bU] 0 kP S4 ?_
 intro sD kQ
 refine An rfl (Gp ?_)
 have kR:=kQ.px [] [14,15,16] []
 refine Gq (Mz rfl (Kz (.agg #[vI 1, .string ⟨u3 ([97])⟩, .string ⟨u3 []⟩, .string ⟨u3 []⟩, .string ⟨u3 []⟩,vI 0]) ?_))
 refine WL.do rfl (GV S7 rfl ?_ (λ _ _ k=>k))
 refine cb S8 ?_
 refine sr ?_
 refine bW [vI 1, .string ⟨u3 ([97])⟩, .string ⟨u3 []⟩, .string ⟨u3 []⟩, .string ⟨u3 []⟩,vI 0] 68 kR ?_
 intro sF sG kS
 refine bW (ic 0 0 0 0 0 0 0 0 0 0 0 0 0 0 0 false [] [] none 0 0 none 0 0 none 0 0) 47 kS ?_
 intro sH sI fZ
 refine ns (Mz rfl (La ([vI 1, .string ⟨u3 ([97])⟩, .string ⟨u3 []⟩, .string ⟨u3 []⟩, .string ⟨u3 []⟩,vI 0]) fZ 1 B3 y6 ?_))
 refine jE [vI 1, .string ⟨u3 ([97])⟩, .string ⟨u3 []⟩, .string ⟨u3 []⟩, .string ⟨u3 []⟩,vI 0] 68 6 1 fZ ?_
 intro bN sJ dV
 replace dV:=Ha (y:=row bN 1 1 (q0 aY.cells ([(aY.mk 1 ([97]) [] [] [] 0)])) 68 6) rfl dV
 refine Kz (.agg (ic 3 0 1 0 0 0 0 0 4 0 0 1 0 0 0 false [] [] bN 1 1 none 0 0 none 0 0).toArray) ?_
 have kT:=dV.pf [1]
 refine bY (ic 3 0 1 0 0 0 0 0 4 0 0 1 0 0 0 false [] [] bN 1 1 none 0 0 none 0 0) 0 kT G1 ?_
 intro sK gm
 refine nt (rt (GM (oK rfl rfl (GJ (cs:=(ic 3 0 1 0 0 0 0 0 4 0 0 1 0 0 0 false [] [] bN 1 1 none 0 0 none 0 0)) G0 G1 ((gm.cls (i:=0) rfl).lit (k:=0) (m:=21) rfl))) ?_))
 have gp:=gm.pf [7,8,9,10,11,12,13,14,15,16]
 have oO:=zr 21 gp
 obtain⟨⟨av,gq,g,bO⟩,o⟩:∃ q:dH × Int × ax × aZ,dU (ax.mk (bA.mk a.bC (E0 (F1.wrap ((a.aT:Int)+1))) a.bv a.aL a.aG (D4 a.ah.ls) (D4 O.aa.ak.ls) (D4 O.aa.af.ls) O.aa.bi a.aM a.aH a.aF) (D4 O.ag.ls)) (dM.mk 3 0 1 0 0 0 0 0 4 0 0 1 0 0 0 false (aj.mk [] []) (D4 ([(aY.mk 1 ([97]) [] [] [] 0)])) (D4 []) (D4 [])) (StoreT.mk (D4 [])) bK=q:=⟨_,rfl⟩
 obtain⟨sM,iT,oP,iV,dW⟩:=Ie gp
 refine cl S9 (jb _ _ aH (ax.mk (bA.mk a.bC (E0 (F1.wrap ((a.aT:Int)+1))) a.bv a.aL a.aG (D4 a.ah.ls) (D4 O.aa.ak.ls) (D4 O.aa.af.ls) O.aa.bi a.aM a.aH a.aF) (D4 O.ag.ls)) bv aB kC kD kE kF kG kH kI kJ (dM.mk 3 0 1 0 0 0 0 0 4 0 0 1 0 0 0 false (aj.mk [] []) (D4 ([(aY.mk 1 ([97]) [] [] [] 0)])) (D4 []) (D4 [])) bN 1 1 none 0 0 [] none 0 0 aO (StoreT.mk (D4 [])) none 0 bB bK kK kL kN av gq g bO iT (dW _ 11 _ rfl bQ) e8 dO dP rfl (dW _ 1 _ rfl bQ) f7 rfl rfl (λ _ _=>bM.nil _ _ _) f7 (λ _ h9=>absurd h9 u4) rfl (λ _ _=>bM.nil _ _ _) f7 (λ _ _=>bM.nil _ _ _) e8 dQ (by first | assumption | exact Rs.tk f6 | (dsimp only; exact(ed f6).tk)) (by first | assumption | exact Rs.gt f6 | (dsimp only; exact(ed f6).gt)) (by first | omega | exact Tk.n f6 | exact(Rs.tk f6).n | (dsimp only; exact(ed f6).tk.n)) (by first | omega | exact Tk.rows f6 | exact(Rs.tk f6).rows | (dsimp only; exact(ed f6).tk.rows)) f0 f0 f0 o) ?_
 rintro _ sN ⟨dX,dZ,gu,gy,sO,gz,gB,kU,gD,gF,gG,d9,gH,kV,kW,kX,rfl,iW,iX,ek,cu,eu⟩
 have aU:=iV _ _ iW
 have oQ:=aW iX
 have oU:=aW ek
 have oV:=aW cu
 have oW:=aW eu
 have oZ:=zr 0 aU
 have o5:=zr 2 aU
 have o8:=zr 4 aU
 have o9:=zr 6 aU
 have pg:=zr 7 aU
 have pq:=zr 11 aU
 obtain⟨eB,eD⟩:=nS (m:=(ax.mk (bA.mk a.bC (E0 (F1.wrap ((a.aT:Int)+1))) a.bv a.aL a.aG (D4 a.ah.ls) (D4 O.aa.ak.ls) (D4 O.aa.af.ls) O.aa.bi a.aM a.aH a.aF) (D4 O.ag.ls))) (tb:=bK) g8 f9 o
 replace eB:Rs g.ag.ls g.aa.ak.ls g.aa.af.ls bO.ai.ls:=eB
 replace eD:g.aa.ah.ls.length=a.ah.ls.length/\g.aa.af.ls.length<=O.aa.af.ls.length+1/\av.aI.ls.length<=24/\g.ag.ls.length+g.aa.ak.ls.length<=6:=eD
 refine Mz rfl (Kz (.agg #[.slice dX av.bE.ls.length dZ, .slice gu av.aI.ls.length gy, .bool av.bU]) (Kz (vI gq) ?_))
 refine bW [.slice none 0 0, .slice none 0 0, .bool false] 52 aU ?_
 intro kY sP kZ
 refine bY [.slice dX av.bE.ls.length dZ, .slice gu av.aI.ls.length gy, .bool av.bU] 0 kZ S4 ?_
 intro sQ lc
 refine An rfl (Gp ?_)
 have lg:=lc.px [] [14,15,16] []
 refine Gq (Mz rfl ?_)
 have df:=lg.pf [4]
 have pu:=zr 8 df
 obtain⟨bC,x⟩:∃ q,o6 (ax.mk (bA.mk a.bC (E0 (F1.wrap ((a.aT:Int)+1))) a.bv a.aL a.aG (D4 a.ah.ls) (D4 g.aa.ak.ls) (D4 g.aa.af.ls) g.aa.bi a.aM a.aH a.aF) (D4 g.ag.ls))=q:=⟨_,rfl⟩
 obtain⟨sS,iY,pz,iZ,cz⟩:=G9 df
 refine cl Tryz.call12 (uH _ _ aH (ax.mk (bA.mk a.bC (E0 (F1.wrap ((a.aT:Int)+1))) a.bv a.aL a.aG (D4 a.ah.ls) (D4 g.aa.ak.ls) (D4 g.aa.af.ls) g.aa.bi a.aM a.aH a.aF) (D4 g.ag.ls)) bv aB gz gB gD gF gG d9 gH aO bB bC iY cu (cz _ 7 _ rfl bQ) e8 (λ x9 h9=>⟨cz _ 8 _ rfl (bP (M5.2 ⟨x9,h9,b3⟩) bQ),dJ (φ:=λ _=>_) df (i:=9) rfl (bP (M5.2 ⟨x9,h9,b3⟩) dN),cz _ 8 _ rfl (bP (M5.2 ⟨x9,h9, .tail _ b3⟩) bQ),dJ (φ:=λ _=>_) df (i:=9) rfl (bP (M5.2 ⟨x9,h9, .tail _ b3⟩) dN)⟩) f0 x) ?_
 rintro _ sU ⟨lh,ll,rfl,jc⟩
 have gI:=iZ _ _ jc
 have pE:=zr 0 gI
 refine Ar rfl (Mz rfl (Kz (.agg (ic 5 0 1 0 0 0 0 0 5 0 0 0 0 0 0 true [] [] none 0 0 none 0 0 none 0 0).toArray) ?_))
 have gJ:=gI.pf [1,6,7,8,9,10,11,12,13,14]
 have pF:=zr 23 gJ
 obtain⟨⟨L,gK,P,bR⟩,p⟩:∃ q:dH × Int × ax × aZ,dU (ax.mk (bA.mk a.bC (E0 (F1.wrap ((a.aT:Int)+1))) a.bv a.aL a.aG (D4 a.ah.ls) (D4 g.aa.ak.ls) (D4 g.aa.af.ls) g.aa.bi a.aM a.aH a.aF) (D4 g.ag.ls)) (dM.mk 5 0 1 0 0 0 0 0 5 0 0 0 0 0 0 true (aj.mk [] []) (D4 []) (D4 []) (D4 [])) (StoreT.mk (D4 [])) bO=q:=⟨_,rfl⟩
 obtain⟨sV,jd,pG,je,jg⟩:=Ie gJ
 refine cl S9 (jb _ _ aH (ax.mk (bA.mk a.bC (E0 (F1.wrap ((a.aT:Int)+1))) a.bv a.aL a.aG (D4 a.ah.ls) (D4 g.aa.ak.ls) (D4 g.aa.af.ls) g.aa.bi a.aM a.aH a.aF) (D4 g.ag.ls)) bv aB gz gB kU gD gF gG d9 gH (dM.mk 5 0 1 0 0 0 0 0 5 0 0 0 0 0 0 true (aj.mk [] []) (D4 []) (D4 []) (D4 [])) none 0 0 none 0 0 [] none 0 0 aO (StoreT.mk (D4 [])) none 0 bB bO kV kW kX L gK P bR jd (jg _ 13 _ rfl bQ) e8 ek cu rfl (λ _ _=>bM.nil _ _ _) f7 rfl rfl (λ _ _=>bM.nil _ _ _) f7 (λ _ h9=>absurd h9 u4) rfl (λ _ _=>bM.nil _ _ _) f7 (λ _ _=>bM.nil _ _ _) e8 eu (by first | assumption | exact Rs.tk f6 | (dsimp only; exact(ed f6).tk)) (by first | assumption | exact Rs.gt f6 | (dsimp only; exact(ed f6).gt)) (by first | omega | exact Tk.n f6 | exact(Rs.tk f6).n | (dsimp only; exact(ed f6).tk.n)) (by first | omega | exact Tk.rows f6 | exact(Rs.tk f6).rows | (dsimp only; exact(ed f6).tk.rows)) f0 f0 f0 p) ?_
 rintro _ sW ⟨F,aV,eF,eG,gL,lm,lq,lu,lw,lC,lD,lF,lG,lH,lI,lJ,rfl,jh,cB,eH,eO,eP⟩
 have aX:=je _ _ jh
 have pI:=aW cB
 have pJ:=aW eH
 have pK:=aW eO
 have pM:=aW eP
 have pO:=zr 0 aX
 have pQ:=zr 2 aX
 have pR:=zr 4 aX
 have pU:=zr 6 aX
 have pV:=zr 7 aX
 have pW:=zr 11 aX
 obtain⟨eQ,eT⟩:=nS (m:=(ax.mk (bA.mk a.bC (E0 (F1.wrap ((a.aT:Int)+1))) a.bv a.aL a.aG (D4 a.ah.ls) (D4 g.aa.ak.ls) (D4 g.aa.af.ls) g.aa.bi a.aM a.aH a.aF) (D4 g.ag.ls))) (tb:=bO) g8 f9 p
 replace eQ:Rs P.ag.ls P.aa.ak.ls P.aa.af.ls bR.ai.ls:=eQ
 replace eT:P.aa.ah.ls.length=a.ah.ls.length/\P.aa.af.ls.length<=g.aa.af.ls.length+1/\L.aI.ls.length<=24/\P.ag.ls.length+P.aa.ak.ls.length<=6:=eT
 refine Mz rfl (Kz (.agg #[.slice F L.bE.ls.length aV, .slice eF L.aI.ls.length eG, .bool L.bU]) (Kz (vI gK) ?_))
 refine bW [.slice none 0 0, .slice none 0 0, .bool false] 52 aX ?_
 intro bD sZ lK
 refine bY [.slice F L.bE.ls.length aV, .slice eF L.aI.ls.length eG, .bool L.bU] 0 lK S4 ?_
 intro tq lL
 refine Ar rfl (Mz rfl (Kz (.agg #[vI 2, .string ⟨u3 ([122])⟩, .string ⟨u3 []⟩, .string ⟨u3 []⟩, .string ⟨u3 []⟩,vI 0]) ?_))
 refine WL.do rfl (GV S7 rfl ?_ (λ _ _ k=>k))
 refine cb S8 ?_
 refine sr ?_
 refine bW [vI 2, .string ⟨u3 ([122])⟩, .string ⟨u3 []⟩, .string ⟨u3 []⟩, .string ⟨u3 []⟩,vI 0] 68 lL ?_
 intro tu tC lM
 refine bW (ic 0 0 0 0 0 0 0 0 0 0 0 0 0 0 0 false [] [] none 0 0 none 0 0 none 0 0) 47 lM ?_
 intro tF tH gM
 refine ns (Mz rfl (La ([vI 2, .string ⟨u3 ([122])⟩, .string ⟨u3 []⟩, .string ⟨u3 []⟩, .string ⟨u3 []⟩,vI 0]) gM 1 B3 y6 ?_))
 refine jE [vI 2, .string ⟨u3 ([122])⟩, .string ⟨u3 []⟩, .string ⟨u3 []⟩, .string ⟨u3 []⟩,vI 0] 68 6 1 gM ?_
 intro bT tJ eU
 replace eU:=Ha (y:=row bT 1 1 (q0 aY.cells ([(aY.mk 2 ([122]) [] [] [] 0)])) 68 6) rfl eU
 refine Kz (.agg (ic 3 0 1 0 0 0 0 0 7 0 0 1 0 0 0 false [] [] bT 1 1 none 0 0 none 0 0).toArray) ?_
 have lN:=eU.pf [1]
 refine bY (ic 3 0 1 0 0 0 0 0 7 0 0 1 0 0 0 false [] [] bT 1 1 none 0 0 none 0 0) 0 lN G1 ?_
 intro tK gN
 refine nt (rt (GM (oK rfl rfl (GJ (cs:=(ic 3 0 1 0 0 0 0 0 7 0 0 1 0 0 0 false [] [] bT 1 1 none 0 0 none 0 0)) G0 G1 ((gN.cls (i:=0) rfl).lit (k:=0) (m:=21) rfl))) ?_))
 have gP:=gN.pf [7,8,9,10,11,12,13,14,15,16]
 have pX:=zr 30 gP
 obtain⟨⟨au,gQ,Q,bU⟩,r⟩:∃ q:dH × Int × ax × aZ,dU (ax.mk (bA.mk a.bC (E0 (F1.wrap ((a.aT:Int)+1))) a.bv a.aL a.aG (D4 a.ah.ls) (D4 P.aa.ak.ls) (D4 P.aa.af.ls) P.aa.bi a.aM a.aH a.aF) (D4 P.ag.ls)) (dM.mk 3 0 1 0 0 0 0 0 7 0 0 1 0 0 0 false (aj.mk [] []) (D4 ([(aY.mk 2 ([122]) [] [] [] 0)])) (D4 []) (D4 [])) (StoreT.mk (D4 [])) bR=q:=⟨_,rfl⟩
 obtain⟨tN,ji,pY,jk,eX⟩:=Ie gP
 refine cl S9 (jb _ _ aH (ax.mk (bA.mk a.bC (E0 (F1.wrap ((a.aT:Int)+1))) a.bv a.aL a.aG (D4 a.ah.ls) (D4 P.aa.ak.ls) (D4 P.aa.af.ls) P.aa.bi a.aM a.aH a.aF) (D4 P.ag.ls)) bv aB lm lq lu lw lC lD lF lG (dM.mk 3 0 1 0 0 0 0 0 7 0 0 1 0 0 0 false (aj.mk [] []) (D4 ([(aY.mk 2 ([122]) [] [] [] 0)])) (D4 []) (D4 [])) bT 1 1 none 0 0 [] none 0 0 aO (StoreT.mk (D4 [])) none 0 bB bR lH lI lJ au gQ Q bU ji (eX _ 20 _ rfl bQ) e8 eH eO rfl (eX _ 1 _ rfl bQ) f7 rfl rfl (λ _ _=>bM.nil _ _ _) f7 (λ _ h9=>absurd h9 u4) rfl (λ _ _=>bM.nil _ _ _) f7 (λ _ _=>bM.nil _ _ _) e8 eP (by first | assumption | exact Rs.tk f6 | (dsimp only; exact(ed f6).tk)) (by first | assumption | exact Rs.gt f6 | (dsimp only; exact(ed f6).gt)) (by first | omega | exact Tk.n f6 | exact(Rs.tk f6).n | (dsimp only; exact(ed f6).tk.n)) (by first | omega | exact Tk.rows f6 | exact(Rs.tk f6).rows | (dsimp only; exact(ed f6).tk.rows)) f0 f0 f0 r) ?_
 rintro _ tO ⟨aL,dh,gT,gV,lS,lT,lU,lV,lW,lX,lY,lZ,l5,l6,l7,l8,rfl,jl,eY,eZ,fe,fo⟩
 have bf:=jk _ _ jl
 have p8:=aW eY
 have p9:=aW eZ
 have qa:=aW fe
 have qb:=aW fo
 have qc:=zr 0 bf
 have qd:=zr 2 bf
 have qf:=zr 4 bf
 have qg:=zr 6 bf
 have qh:=zr 7 bf
 have qi:=zr 11 bf
 obtain⟨fq,fu⟩:=nS (m:=(ax.mk (bA.mk a.bC (E0 (F1.wrap ((a.aT:Int)+1))) a.bv a.aL a.aG (D4 a.ah.ls) (D4 P.aa.ak.ls) (D4 P.aa.af.ls) P.aa.bi a.aM a.aH a.aF) (D4 P.ag.ls))) (tb:=bR) g8 f9 r
 replace fq:Rs Q.ag.ls Q.aa.ak.ls Q.aa.af.ls bU.ai.ls:=fq
 replace fu:Q.aa.ah.ls.length=a.ah.ls.length/\Q.aa.af.ls.length<=P.aa.af.ls.length+1/\au.aI.ls.length<=24/\Q.ag.ls.length+Q.aa.ak.ls.length<=6:=fu
 refine Mz rfl (Kz (.agg #[.slice aL au.bE.ls.length dh, .slice gT au.aI.ls.length gV, .bool au.bU]) (Kz (vI gQ) ?_))
 refine bW [.slice none 0 0, .slice none 0 0, .bool false] 52 bf ?_
 intro gW tQ l9
 refine bY [.slice aL au.bE.ls.length dh, .slice gT au.aI.ls.length gV, .bool au.bU] 0 l9 S4 ?_
 intro tT ma
 refine An rfl (Gp ?_)
 have mf:=ma.px [] [14,15,16] []
 refine Gq (Mz rfl (Kz (.agg (ic 6 1 0 0 0 0 0 0 0 0 0 0 0 0 0 false [] [] none 0 0 none 0 0 none 0 0).toArray) ?_))
 have gX:=mf.pf [4,5,6,7,8,9,10,11,12,13]
 have qj:=zr 31 gX
 obtain⟨⟨aM,bE,U,gY⟩,s⟩:∃ q:dH × Int × ax × aZ,dU (ax.mk (bA.mk a.bC (E0 (F1.wrap ((a.aT:Int)+1))) a.bv a.aL a.aG (D4 a.ah.ls) (D4 Q.aa.ak.ls) (D4 Q.aa.af.ls) Q.aa.bi a.aM a.aH a.aF) (D4 Q.ag.ls)) (dM.mk 6 1 0 0 0 0 0 0 0 0 0 0 0 0 0 false (aj.mk [] []) (D4 []) (D4 []) (D4 [])) (StoreT.mk (D4 [])) bU=q:=⟨_,rfl⟩
 obtain⟨tV,jm,ql,jo,jq⟩:=Ie gX
 refine cl S9 (jb _ _ aH (ax.mk (bA.mk a.bC (E0 (F1.wrap ((a.aT:Int)+1))) a.bv a.aL a.aG (D4 a.ah.ls) (D4 Q.aa.ak.ls) (D4 Q.aa.af.ls) Q.aa.bi a.aM a.aH a.aF) (D4 Q.ag.ls)) bv aB lT lU lV lW lX lY lZ l5 (dM.mk 6 1 0 0 0 0 0 0 0 0 0 0 0 0 0 false (aj.mk [] []) (D4 []) (D4 []) (D4 [])) none 0 0 none 0 0 [] none 0 0 aO (StoreT.mk (D4 [])) none 0 bB bU l6 l7 l8 aM bE U gY jm (jq _ 21 _ rfl bQ) e8 eZ fe rfl (λ _ _=>bM.nil _ _ _) f7 rfl rfl (λ _ _=>bM.nil _ _ _) f7 (λ _ h9=>absurd h9 u4) rfl (λ _ _=>bM.nil _ _ _) f7 (λ _ _=>bM.nil _ _ _) e8 fo (by first | assumption | exact Rs.tk f6 | (dsimp only; exact(ed f6).tk)) (by first | assumption | exact Rs.gt f6 | (dsimp only; exact(ed f6).gt)) (by first | omega | exact Tk.n f6 | exact(Rs.tk f6).n | (dsimp only; exact(ed f6).tk.n)) (by first | omega | exact Tk.rows f6 | exact(Rs.tk f6).rows | (dsimp only; exact(ed f6).tk.rows)) f0 f0 f0 s) ?_
 rintro _ tX ⟨gZ,ib,ig,ik,tY,mg,il,mh,mi,iq,mo,mq,tZ,uf,ug,uh,rfl,jr,jv,fA,jw,jy⟩
 have bg:=jo _ _ jr
 have qm:=aW jv
 have qo:=aW fA
 have qp:=aW jw
 have qw:=aW jy
 have qx:=zr 0 bg
 have qy:=zr 2 bg
 have qz:=zr 4 bg
 have qA:=zr 6 bg
 have qC:=zr 7 bg
 have qD:=zr 11 bg
 obtain⟨fB,fC⟩:=nS (m:=(ax.mk (bA.mk a.bC (E0 (F1.wrap ((a.aT:Int)+1))) a.bv a.aL a.aG (D4 a.ah.ls) (D4 Q.aa.ak.ls) (D4 Q.aa.af.ls) Q.aa.bi a.aM a.aH a.aF) (D4 Q.ag.ls))) (tb:=bU) g8 f9 s
 replace fB:Rs U.ag.ls U.aa.ak.ls U.aa.af.ls gY.ai.ls:=fB
 replace fC:U.aa.ah.ls.length=a.ah.ls.length/\U.aa.af.ls.length<=Q.aa.af.ls.length+1/\aM.aI.ls.length<=24/\U.ag.ls.length+U.aa.ak.ls.length<=6:=fC
 refine Mz rfl (Kz (.agg #[.slice gZ aM.bE.ls.length ib, .slice ig aM.aI.ls.length ik, .bool aM.bU]) (Kz (vI bE) ?_))
 refine bW [.slice none 0 0, .slice none 0 0, .bool false] 52 bg ?_
 intro uj uk mr
 refine bY [.slice gZ aM.bE.ls.length ib, .slice ig aM.aI.ls.length ik, .bool aM.bU] 0 mr S4 ?_
 intro ul mD
 refine An rfl (Gp ?_)
 have bZ:=mD.px [] [0,1,2,3] []
 refine Gq (Mz rfl ?_)
 have qE:=zr 31 bZ
 have qF:=zr 1 bZ
 have qG:=zr 3 bZ
 obtain⟨aC,z⟩:∃ q,o7 (ax.mk (bA.mk a.bC (E0 (F1.wrap ((a.aT:Int)+1))) a.bv a.aL a.aG (D4 a.ah.ls) (D4 U.aa.ak.ls) (D4 U.aa.af.ls) U.aa.bi a.aM a.aH a.aF) (D4 U.ag.ls))=q:=⟨_,rfl⟩
 obtain⟨um,jA,qH,jB,bG⟩:=G9 bZ
 refine cl Tryz.call11 (uK _ _ aH (ax.mk (bA.mk a.bC (E0 (F1.wrap ((a.aT:Int)+1))) a.bv a.aL a.aG (D4 a.ah.ls) (D4 U.aa.ak.ls) (D4 U.aa.af.ls) U.aa.bi a.aM a.aH a.aF) (D4 U.ag.ls)) bv aB mg il mh mi iq mo mq aO bB aC jA (bG _ 30 _ rfl bQ) e8 fA (bG _ 0 _ rfl bQ) e8 (λ x9 h9=>⟨bG _ 1 _ rfl (bP (M5.2 ⟨x9,h9,b3⟩) bQ),dJ (φ:=λ _=>_) bZ (i:=2) rfl (bP (M5.2 ⟨x9,h9,b3⟩) dN)⟩) (bG _ 2 _ rfl bQ) e8 g4 (by first | assumption | exact Tk.hops f6 | exact(Rs.tk f6).hops) z) ?_
 rintro _ uo ⟨mE,mF,iw,iy,mG,mH,uq,rfl,jC,jD⟩
 have di:=jB _ _ jC
 have qI:=aW jD
 have qJ:=zr 0 di
 have qK:=zr 1 di
 have qL:=zr 3 di
 refine bW (gU 0 0 0 0 0 none 0 0 none 0 0 none 0 0 0 0 [] [] 0 0 0 [] []) 41 di ?_
 intro iA ut mI
 refine bY (iU aC mE mF iw iy mG mH) 0 mI D1 ?_
 intro uu mJ
 refine nt (Gp ?_)
 have b:=mJ.px [] [5,6,7,8,9,10,11,12,13,14,36] []
 refine Gq (Kz (vP dD 0) (Lz (.slice aJ ag.bE.ls.length cO) b 22 T0 (Kz (vJ ag.bE.ls.length) (Kz (.bool (decide ((ag.bE.ls.length:Int)=1))) (Mz rfl ?_)))))
 by_cases f:(ag.bE.ls.length:Int)=1
 refine Gz (vP dD 0) (dT f) (Gl (.slice aJ ag.bE.ls.length cO) (dT f) b 22 T0 ?_)
 obtain⟨V,bi⟩:=dI (ls:=jT) (i:=0) bV.len f5 (b.rds (i:=23) rfl) f2
 have G:=fO dw bi
 have qM:V.aJ.ls.length<=V.aJ.c/\V.aJ.ls.length<=9223372036854775807:=dJ b (i:=24) rfl (φ:=λ _=>_) (bP (M5.2 ⟨V,C1 bi,b3⟩) dN)
 have qN:V.aQ.ls.length=q5 (r8 aP.abs V.aQ.ls):=aW (rfl:r8 aP.abs V.aQ.ls=r8 aP.abs V.aQ.ls)
 have qO:V.aQ.ls.length<=V.aQ.c/\V.aQ.ls.length<=9223372036854775807:=dJ b (i:=24) rfl (φ:=λ _=>_) (bP (M5.2 ⟨V,C1 bi, .tail _ b3⟩) dN)
 have qP:V.ah.ls.length<=V.ah.c/\V.ah.ls.length<=9223372036854775807:=dJ b (i:=24) rfl (φ:=λ _=>_) (bP (M5.2 ⟨V,C1 bi, .tail _ b4⟩) dN)
 refine gw (.pointer (some ⟨ab aJ,ao aJ+0 *21,none⟩)) (dT f) (GI (tL) rfl rfl ((b.rds (i:=23) rfl).addr (i:=0) e8) e8) (Gz (.pointer (some ⟨ab aJ,ao aJ+0 *21+4,none⟩)) (dT f) (gw (vI V.fG) (dT f) (GH rfl (bS.one v5 (((b.rds (i:=23) rfl).elem bV.len bi f5).at_ (k:=4) rfl))) (Gz (.bool (decide (V.fG=3))) (dT f) (fw (.bool (decide (V.fG=3))) (Gu rfl (dT f) rfl) (Mz rfl ?_)))))
 by_cases I:V.fG=3
 refine Gz (vP dD 2) (dT I) (Gl (.bool ag.bU) (dT I) b 22 Tryz.isAgg4 (fw (.bool ag.bU) (Gu rfl (dT I) rfl) (Mz rfl ?_)))
 rcases Kq (ag.bU) with t | t
 refine Gz (vP fV 0) t (Gl (.slice aK ak.bE.ls.length cZ) t b 18 T0 (Gz (vJ ak.bE.ls.length) t (Gz (.bool (decide ((ak.bE.ls.length:Int)=1))) t (fw (.bool (decide ((ak.bE.ls.length:Int)=1))) (Gu rfl t rfl) (Mz rfl ?_)))))
 by_cases h:(ak.bE.ls.length:Int)=1
 refine Gz (vP fV 0) (dT h) (Gl (.slice aK ak.bE.ls.length cZ) (dT h) b 18 T0 ?_)
 obtain⟨W,bn⟩:=dI (ls:=kz) (i:=0) bV.len f5 (b.rds (i:=19) rfl) f2
 have Z:=fO dL bn
 have qQ:W.aJ.ls.length<=W.aJ.c/\W.aJ.ls.length<=9223372036854775807:=dJ b (i:=20) rfl (φ:=λ _=>_) (bP (M5.2 ⟨W,C1 bn,b3⟩) dN)
 have qR:W.aQ.ls.length=q5 (r8 aP.abs W.aQ.ls):=aW (rfl:r8 aP.abs W.aQ.ls=r8 aP.abs W.aQ.ls)
 have qU:W.aQ.ls.length<=W.aQ.c/\W.aQ.ls.length<=9223372036854775807:=dJ b (i:=20) rfl (φ:=λ _=>_) (bP (M5.2 ⟨W,C1 bn, .tail _ b3⟩) dN)
 have qV:W.ah.ls.length<=W.ah.c/\W.ah.ls.length<=9223372036854775807:=dJ b (i:=20) rfl (φ:=λ _=>_) (bP (M5.2 ⟨W,C1 bn, .tail _ b4⟩) dN)
 refine gw (.pointer (some ⟨ab aK,ao aK+0 *21,none⟩)) (dT h) (GI (tL) rfl rfl ((b.rds (i:=19) rfl).addr (i:=0) e8) e8) (Gz (.pointer (some ⟨ab aK,ao aK+0 *21+4,none⟩)) (dT h) (gw (vI W.fG) (dT h) (GH rfl (bS.one v5 (((b.rds (i:=19) rfl).elem bV.len bn f5).at_ (k:=4) rfl))) (Gz (.bool (decide (W.fG=5))) (dT h) (fw (.bool (decide (W.fG=5))) (Gu rfl (dT h) rfl) (Mz rfl ?_)))))
 by_cases B:W.fG=5
 refine Gz (vP kY 0) (dT B) (Gl (.slice dX av.bE.ls.length dZ) (dT B) b 14 T0 (Gz (vJ av.bE.ls.length) (dT B) (Gz (.bool (decide ((av.bE.ls.length:Int)=0))) (dT B) (fw (.bool (decide ((av.bE.ls.length:Int)=0))) (Gu rfl (dT B) rfl) (Mz rfl ?_)))))
 by_cases R:(av.bE.ls.length:Int)=0
 refine gw (.slice lh bC.length ll) (dT R) (Gv rfl) (Gz (vJ bC.length) (dT R) (Gz (.bool (decide ((bC.length:Int)=1))) (dT R) (fw (.bool (decide ((bC.length:Int)=1))) (Gu rfl (dT R) rfl) (Mz rfl ?_))))
 by_cases M:(bC.length:Int)=1
 refine Gz (vP bD 1) (dT M) (Gl (.slice eF L.aI.ls.length eG) (dT M) b 9 Tryz.isAgg44 (Gz (vJ L.aI.ls.length) (dT M) (Gz (.bool (decide ((L.aI.ls.length:Int)=1))) (dT M) (fw (.bool (decide ((L.aI.ls.length:Int)=1))) (Gu rfl (dT M) rfl) (Mz rfl ?_)))))
 by_cases S:(L.aI.ls.length:Int)=1
 refine Gz (vP bD 0) (dT S) (Gl (.slice F L.bE.ls.length aV) (dT S) b 9 T0 (Gz (vJ L.bE.ls.length) (dT S) (Gz (.bool (decide ((L.bE.ls.length:Int)=2))) (dT S) (fw (.bool (decide ((L.bE.ls.length:Int)=2))) (Gu rfl (dT S) rfl) (Mz rfl ?_)))))
 by_cases C:(L.bE.ls.length:Int)=2
 refine Gz (vP bD 0) (dT C) (Gl (.slice F L.bE.ls.length aV) (dT C) b 9 T0 ?_)
 obtain⟨X,bq⟩:=dI (ls:=gL) (i:=0) bV.len f5 (b.rds (i:=10) rfl) f2
 have aA:=fO cB bq
 have qW:X.aJ.ls.length<=X.aJ.c/\X.aJ.ls.length<=9223372036854775807:=dJ b (i:=11) rfl (φ:=λ _=>_) (bP (M5.2 ⟨X,C1 bq,b3⟩) dN)
 have qX:X.aQ.ls.length=q5 (r8 aP.abs X.aQ.ls):=aW (rfl:r8 aP.abs X.aQ.ls=r8 aP.abs X.aQ.ls)
 have qY:X.aQ.ls.length<=X.aQ.c/\X.aQ.ls.length<=9223372036854775807:=dJ b (i:=11) rfl (φ:=λ _=>_) (bP (M5.2 ⟨X,C1 bq, .tail _ b3⟩) dN)
 have qZ:X.ah.ls.length<=X.ah.c/\X.ah.ls.length<=9223372036854775807:=dJ b (i:=11) rfl (φ:=λ _=>_) (bP (M5.2 ⟨X,C1 bq, .tail _ b4⟩) dN)
 refine gw (.pointer (some ⟨ab F,ao F+0 *21,none⟩)) (dT C) (GI (tL) rfl rfl ((b.rds (i:=10) rfl).addr (i:=0) e8) e8) (Gz (.pointer (some ⟨ab F,ao F+0 *21,none⟩)) (dT C) (gw (vI X.az) (dT C) (GH rfl (bS.one v5 (((b.rds (i:=10) rfl).elem bV.len bq f5).at_ (k:=0) rfl))) (Gz (.bool (decide (X.az=6))) (dT C) (fw (.bool (decide (X.az=6))) (Gu rfl (dT C) rfl) (Mz rfl ?_)))))
 by_cases J:X.az=6
 refine Gz (vP bD 0) (dT J) (Gl (.slice F L.bE.ls.length aV) (dT J) b 9 T0 ?_)
 obtain⟨d,ai⟩:=dI (ls:=gL) (i:=1) bV.len f5 (b.rds (i:=10) rfl) f2
 have aD:=fO cB ai
 have q8:d.aJ.ls.length<=d.aJ.c/\d.aJ.ls.length<=9223372036854775807:=dJ b (i:=11) rfl (φ:=λ _=>_) (bP (M5.2 ⟨d,C1 ai,b3⟩) dN)
 have q9:d.aQ.ls.length=q5 (r8 aP.abs d.aQ.ls):=aW (rfl:r8 aP.abs d.aQ.ls=r8 aP.abs d.aQ.ls)
 have rf:d.aQ.ls.length<=d.aQ.c/\d.aQ.ls.length<=9223372036854775807:=dJ b (i:=11) rfl (φ:=λ _=>_) (bP (M5.2 ⟨d,C1 ai, .tail _ b3⟩) dN)
 have rq:d.ah.ls.length<=d.ah.c/\d.ah.ls.length<=9223372036854775807:=dJ b (i:=11) rfl (φ:=λ _=>_) (bP (M5.2 ⟨d,C1 ai, .tail _ b4⟩) dN)
 refine gw (.pointer (some ⟨ab F,ao F+1 *21,none⟩)) (dT J) (GI (tL) rfl rfl ((b.rds (i:=10) rfl).addr (i:=1) e8) e8) (Gz (.pointer (some ⟨ab F,ao F+1 *21+8,none⟩)) (dT J) (gw (vU d.aV) (dT J) (GH rfl (bS.one C4 (((b.rds (i:=10) rfl).elem bV.len ai f5).at_ (k:=8) rfl))) (Gz (.bool (decide ((d.aV:Int)=4))) (dT J) (fw (.bool (decide ((d.aV:Int)=4))) (Gu rfl (dT J) rfl) (Mz rfl ?_)))))
 by_cases E:(d.aV:Int)=4
 refine Gz (vP bD 0) (dT E) (Gl (.slice F L.bE.ls.length aV) (dT E) b 9 T0 (gw (.pointer (some ⟨ab F,ao F+1 *21,none⟩)) (dT E) (GI (tL) rfl rfl ((b.rds (i:=10) rfl).addr (i:=1) e8) e8) (Gz (.pointer (some ⟨ab F,ao F+1 *21+19,none⟩)) (dT E) (gw (.slice d.aQ.A d.aQ.ls.length d.aQ.c) (dT E) (GH rfl (bS.one Tryz.isAgg45 (((b.rds (i:=10) rfl).elem bV.len ai f5).at_ (k:=19) rfl))) (gw (vJ (q5 (r8 aP.abs d.aQ.ls))) (dT E) (Gw (e:=(d.aQ.ls.length:Int)) yk (by rw [List.length_map])) (Gz (.bool (decide (((q5 (r8 aP.abs d.aQ.ls):Nat):Int)=1))) (dT E) (fw (.bool (decide (((q5 (r8 aP.abs d.aQ.ls):Nat):Int)=1))) (Gu rfl (dT E) rfl) (Mz rfl ?_))))))))
 by_cases u:((q5 (r8 aP.abs d.aQ.ls):Nat):Int)=1
 refine Gz (vP bD 0) (dT u) (Gl (.slice F L.bE.ls.length aV) (dT u) b 9 T0 (gw (.pointer (some ⟨ab F,ao F+1 *21,none⟩)) (dT u) (GI (tL) rfl rfl ((b.rds (i:=10) rfl).addr (i:=1) e8) e8) (Gz (.pointer (some ⟨ab F,ao F+1 *21+19,none⟩)) (dT u) (gw (.slice d.aQ.A d.aQ.ls.length d.aQ.c) (dT u) (GH rfl (bS.one Tryz.isAgg45 (((b.rds (i:=10) rfl).elem bV.len ai f5).at_ (k:=19) rfl))) ?_))))
 obtain⟨aN,cK⟩:=dI (ls:=d.aQ.ls) (i:=0) aP.len f5 (show bM _ 3 d.aQ.A d.aQ.ls.length (q0 aP.cells d.aQ.ls) from (dJ b (i:=11) rfl (bP (M5.2 ⟨d,C1 ai, .tail _ b3⟩) bQ))) f2
 have aI:=fO (rfl:r8 aP.abs d.aQ.ls=r8 aP.abs d.aQ.ls) cK
 have ru:aN.bq.ls.length<=aN.bq.c/\aN.bq.ls.length<=9223372036854775807:=dJ b (i:=11) rfl (φ:=λ _=>_) (bP (M5.2 ⟨d,C1 ai, .tail _ b5⟩) (bP (M5.2 ⟨aN,C1 cK,b3⟩) dN))
 refine gw (.pointer (some ⟨ab d.aQ.A,ao d.aQ.A+0 *3,none⟩)) (dT u) (GI (ui) rfl rfl ((show bM _ 3 d.aQ.A d.aQ.ls.length (q0 aP.cells d.aQ.ls) from (dJ b (i:=11) rfl (bP (M5.2 ⟨d,C1 ai, .tail _ b3⟩) bQ))).addr (i:=0) e8) e8) (Gz (.pointer (some ⟨ab d.aQ.A,ao d.aQ.A+0 *3+1,none⟩)) (dT u) (gw (.string ⟨u3 aN.aN⟩) (dT u) (GH rfl (bS.one Tryz.isAgg9 (((show bM _ 3 d.aQ.A d.aQ.ls.length (q0 aP.cells d.aQ.ls) from (dJ b (i:=11) rfl (bP (M5.2 ⟨d,C1 ai, .tail _ b3⟩) bQ))).elem aP.len cK f5).at_ (k:=1) rfl))) (gw (.bool (decide (aN.aN=([120])))) (dT u) (Ir rfl rfl) (fw (.bool (decide (aN.aN=([120])))) (Gu rfl (dT u) rfl) (Mz rfl ?_)))))
 by_cases ah:aN.aN=([120])
 refine Gz (vP gW 0) (dT ah) (Gl (.slice aL au.bE.ls.length dh) (dT ah) b 5 T0 (Gz (vJ au.bE.ls.length) (dT ah) (Gz (.bool (decide ((au.bE.ls.length:Int)=1))) (dT ah) (fw (.bool (decide ((au.bE.ls.length:Int)=1))) (Gu rfl (dT ah) rfl) (Mz rfl ?_)))))
 by_cases aa:(au.bE.ls.length:Int)=1
 refine Gz (vP gW 0) (dT aa) (Gl (.slice aL au.bE.ls.length dh) (dT aa) b 5 T0 ?_)
 obtain⟨Y,bu⟩:=dI (ls:=lS) (i:=0) bV.len f5 (b.rds (i:=6) rfl) f2
 have bH:=fO eY bu
 have ry:Y.aJ.ls.length<=Y.aJ.c/\Y.aJ.ls.length<=9223372036854775807:=dJ b (i:=7) rfl (φ:=λ _=>_) (bP (M5.2 ⟨Y,C1 bu,b3⟩) dN)
 have rz:Y.aQ.ls.length=q5 (r8 aP.abs Y.aQ.ls):=aW (rfl:r8 aP.abs Y.aQ.ls=r8 aP.abs Y.aQ.ls)
 have rA:Y.aQ.ls.length<=Y.aQ.c/\Y.aQ.ls.length<=9223372036854775807:=dJ b (i:=7) rfl (φ:=λ _=>_) (bP (M5.2 ⟨Y,C1 bu, .tail _ b3⟩) dN)
 have rC:Y.ah.ls.length<=Y.ah.c/\Y.ah.ls.length<=9223372036854775807:=dJ b (i:=7) rfl (φ:=λ _=>_) (bP (M5.2 ⟨Y,C1 bu, .tail _ b4⟩) dN)
 refine gw (.pointer (some ⟨ab aL,ao aL+0 *21,none⟩)) (dT aa) (GI (tL) rfl rfl ((b.rds (i:=6) rfl).addr (i:=0) e8) e8) (Gz (.pointer (some ⟨ab aL,ao aL+0 *21+4,none⟩)) (dT aa) (gw (vI Y.fG) (dT aa) (GH rfl (bS.one v5 (((b.rds (i:=6) rfl).elem bV.len bu f5).at_ (k:=4) rfl))) (Gz (.bool (decide (Y.fG=4))) (dT aa) (fw (.bool (decide (Y.fG=4))) (Gu rfl (dT aa) rfl) (Mz rfl ?_)))))
 by_cases aF:Y.fG=4
 refine gw (vI bE) (dT aF) (Gv rfl) (Gz (.bool (decide (bE=180))) (dT aF) (fw (.bool (decide (bE=180))) (Gu rfl (dT aF) rfl) (Mz rfl ?_)))
 by_cases az:bE=180
 refine Gz (vP iA 6) (dT az) (Gl (.slice iw aC.ak.ls.length iy) (dT az) b 0 Tryz.isAgg34 (Gz (vJ aC.ak.ls.length) (dT az) (Gz (.bool (decide ((aC.ak.ls.length:Int)=1))) (dT az) (fw (.bool (decide ((aC.ak.ls.length:Int)=1))) (Gu rfl (dT az) rfl) (Mz rfl ?_)))))
 by_cases aG:(aC.ak.ls.length:Int)=1
 refine Gz (vP iA 1) (dT aG) (Gl (vU aC.aT) (dT aG) b 0 C4 (Gz (.bool (decide ((aC.aT:Int)=1))) (dT aG) (fw (.bool (decide ((aC.aT:Int)=1))) (Gu rfl (dT aG) rfl) (An rfl (rt (rs ?_))))))
 have mK:=b.pk []
 obtain rfl:_=decide ((aC.aT:Int)=1):=zj hr (et (ae T) (et (ip af) (et (ae K) (et (ae j) (et (ae l) (et (ae o) (et (ae x) (et (ae p) (et (ae r) (et (ae s) (et (ae z) (et (ip f) (et (ae (bz G)) (et (ip I) (et (ip t) (et (ip h) (et (ae (bz Z)) (et (ip B) (et (ip R) (et (ip M) (et (ip S) (et (ip C) (et (ae (bz aA)) (et (ip J) (et (ae (bz aD)) (et (ip E) (et (ip u) (et (ae (bz aI)) (et (ip ah) (et (ip aa) (et (ae (bz bH)) (et (ip aF) (et (ip az) (ip aG))))))))))))))))))))))))))))))))))
 exact⟨rfl,mK⟩
 refine Sz (dF aG) (Sz (dF aG) (Sz (dF aG) (fw (.bool false) (Gm rfl (dF aG) rfl) (An rfl (rt (rs ?_))))))
 have mM:=b.pk []
 obtain rfl:_=false:=zj hr (et (ae T) (et (ip af) (et (ae K) (et (ae j) (et (ae l) (et (ae o) (et (ae x) (et (ae p) (et (ae r) (et (ae s) (et (ae z) (et (ip f) (et (ae (bz G)) (et (ip I) (et (ip t) (et (ip h) (et (ae (bz Z)) (et (ip B) (et (ip R) (et (ip M) (et (ip S) (et (ip C) (et (ae (bz aA)) (et (ip J) (et (ae (bz aD)) (et (ip E) (et (ip u) (et (ae (bz aI)) (et (ip ah) (et (ip aa) (et (ae (bz bH)) (et (ip aF) (et (ip az) (iN aG))))))))))))))))))))))))))))))))))
 exact⟨rfl,mM⟩
 refine Sz (dF az) (Sz (dF az) (Sz (dF az) (Sz (dF az) (fw (.bool false) (Gm rfl (dF az) rfl) (Mz rfl (Sz rfl (Sz rfl (Sz rfl (fw (.bool false) (Gm rfl rfl rfl) (An rfl (rt (rs ?_))))))))))))
 have mO:=b.pk []
 obtain rfl:_=false:=zj hr (et (ae T) (et (ip af) (et (ae K) (et (ae j) (et (ae l) (et (ae o) (et (ae x) (et (ae p) (et (ae r) (et (ae s) (et (ae z) (et (ip f) (et (ae (bz G)) (et (ip I) (et (ip t) (et (ip h) (et (ae (bz Z)) (et (ip B) (et (ip R) (et (ip M) (et (ip S) (et (ip C) (et (ae (bz aA)) (et (ip J) (et (ae (bz aD)) (et (ip E) (et (ip u) (et (ae (bz aI)) (et (ip ah) (et (ip aa) (et (ae (bz bH)) (et (ip aF) (iN az)))))))))))))))))))))))))))))))))
 exact⟨rfl,mO⟩
 refine Sz (dF aF) (Sz (dF aF) (fw (.bool false) (Gm rfl (dF aF) rfl) (Mz rfl (Sz rfl (Sz rfl (Sz rfl (Sz rfl (fw (.bool false) (Gm rfl rfl rfl) (Mz rfl (Sz rfl (Sz rfl (Sz rfl (fw (.bool false) (Gm rfl rfl rfl) (An rfl (rt (rs ?_))))))))))))))))
 have mP:=b.pk []
 obtain rfl:_=false:=zj hr (et (ae T) (et (ip af) (et (ae K) (et (ae j) (et (ae l) (et (ae o) (et (ae x) (et (ae p) (et (ae r) (et (ae s) (et (ae z) (et (ip f) (et (ae (bz G)) (et (ip I) (et (ip t) (et (ip h) (et (ae (bz Z)) (et (ip B) (et (ip R) (et (ip M) (et (ip S) (et (ip C) (et (ae (bz aA)) (et (ip J) (et (ae (bz aD)) (et (ip E) (et (ip u) (et (ae (bz aI)) (et (ip ah) (et (ip aa) (et (ae (bz bH)) (iN aF))))))))))))))))))))))))))))))))
 exact⟨rfl,mP⟩
 refine Sz (dF aa) (Sz (dF aa) (Sz (dF aa) (Sz (dF aa) (Sz (dF aa) (Sz (dF aa) (fw (.bool false) (Gm rfl (dF aa) rfl) (Mz rfl (Sz rfl (Sz rfl (fw (.bool false) (Gm rfl rfl rfl) (Mz rfl (Sz rfl (Sz rfl (Sz rfl (Sz rfl (fw (.bool false) (Gm rfl rfl rfl) (Mz rfl (Sz rfl (Sz rfl (Sz rfl (fw (.bool false) (Gm rfl rfl rfl) (An rfl (rt (rs ?_))))))))))))))))))))))))
 have mQ:=b.pk []
 obtain rfl:_=false:=zj hr (et (ae T) (et (ip af) (et (ae K) (et (ae j) (et (ae l) (et (ae o) (et (ae x) (et (ae p) (et (ae r) (et (ae s) (et (ae z) (et (ip f) (et (ae (bz G)) (et (ip I) (et (ip t) (et (ip h) (et (ae (bz Z)) (et (ip B) (et (ip R) (et (ip M) (et (ip S) (et (ip C) (et (ae (bz aA)) (et (ip J) (et (ae (bz aD)) (et (ip E) (et (ip u) (et (ae (bz aI)) (et (ip ah) (iN aa))))))))))))))))))))))))))))))
 exact⟨rfl,mQ⟩
 refine Sz (dF ah) (Sz (dF ah) (Sz (dF ah) (Sz (dF ah) (fw (.bool false) (Gm rfl (dF ah) rfl) (Mz rfl (Sz rfl (Sz rfl (Sz rfl (Sz rfl (Sz rfl (Sz rfl (fw (.bool false) (Gm rfl rfl rfl) (Mz rfl (Sz rfl (Sz rfl (fw (.bool false) (Gm rfl rfl rfl) (Mz rfl (Sz rfl (Sz rfl (Sz rfl (Sz rfl (fw (.bool false) (Gm rfl rfl rfl) (Mz rfl (Sz rfl (Sz rfl (Sz rfl (fw (.bool false) (Gm rfl rfl rfl) (An rfl (rt (rs ?_))))))))))))))))))))))))))))))
 have mR:=b.pk []
 obtain rfl:_=false:=zj hr (et (ae T) (et (ip af) (et (ae K) (et (ae j) (et (ae l) (et (ae o) (et (ae x) (et (ae p) (et (ae r) (et (ae s) (et (ae z) (et (ip f) (et (ae (bz G)) (et (ip I) (et (ip t) (et (ip h) (et (ae (bz Z)) (et (ip B) (et (ip R) (et (ip M) (et (ip S) (et (ip C) (et (ae (bz aA)) (et (ip J) (et (ae (bz aD)) (et (ip E) (et (ip u) (et (ae (bz aI)) (iN ah)))))))))))))))))))))))))))))
 exact⟨rfl,mR⟩
 refine Sz (dF u) (Sz (dF u) (Sz (dF u) (Sz (dF u) (Sz (dF u) (Sz (dF u) (Sz (dF u) (Sz (dF u) (Sz (dF u) (fw (.bool false) (Gm rfl (dF u) rfl) (Mz rfl (Sz rfl (Sz rfl (Sz rfl (Sz rfl (fw (.bool false) (Gm rfl rfl rfl) (Mz rfl (Sz rfl (Sz rfl (Sz rfl (Sz rfl (Sz rfl (Sz rfl (fw (.bool false) (Gm rfl rfl rfl) (Mz rfl (Sz rfl (Sz rfl (fw (.bool false) (Gm rfl rfl rfl) (Mz rfl (Sz rfl (Sz rfl (Sz rfl (Sz rfl (fw (.bool false) (Gm rfl rfl rfl) (Mz rfl (Sz rfl (Sz rfl (Sz rfl (fw (.bool false) (Gm rfl rfl rfl) (Az rfl ?_)))))))))))))))))))))))))))))))))))))))
 refine nt (rt (rs ?_))
 have mU:=b.pk []
 obtain rfl:_=false:=zj hr (et (ae T) (et (ip af) (et (ae K) (et (ae j) (et (ae l) (et (ae o) (et (ae x) (et (ae p) (et (ae r) (et (ae s) (et (ae z) (et (ip f) (et (ae (bz G)) (et (ip I) (et (ip t) (et (ip h) (et (ae (bz Z)) (et (ip B) (et (ip R) (et (ip M) (et (ip S) (et (ip C) (et (ae (bz aA)) (et (ip J) (et (ae (bz aD)) (et (ip E) (iN u)))))))))))))))))))))))))))
 exact⟨rfl,mU⟩
 refine Sz (dF E) (Sz (dF E) (Sz (dF E) (Sz (dF E) (Sz (dF E) (Sz (dF E) (Sz (dF E) (fw (.bool false) (Gm rfl (dF E) rfl) (Mz rfl (Sz rfl (Sz rfl (Sz rfl (Sz rfl (Sz rfl (Sz rfl (Sz rfl (Sz rfl (Sz rfl (fw (.bool false) (Gm rfl rfl rfl) (Mz rfl (Sz rfl (Sz rfl (Sz rfl (Sz rfl (fw (.bool false) (Gm rfl rfl rfl) (Mz rfl (Sz rfl (Sz rfl (Sz rfl (Sz rfl (Sz rfl (Sz rfl (fw (.bool false) (Gm rfl rfl rfl) (Mz rfl (Sz rfl (Sz rfl (fw (.bool false) (Gm rfl rfl rfl) (Mz rfl (Sz rfl (Sz rfl ?_)))))))))))))))))))))))))))))))))))))))
 refine Sz rfl (Sz rfl (fw (.bool false) (Gm rfl rfl rfl) (Mz rfl (Sz rfl (Sz rfl (Sz rfl (fw (.bool false) (Gm rfl rfl rfl) (An rfl (rt (rs ?_))))))))))
 have mV:=b.pk []
 obtain rfl:_=false:=zj hr (et (ae T) (et (ip af) (et (ae K) (et (ae j) (et (ae l) (et (ae o) (et (ae x) (et (ae p) (et (ae r) (et (ae s) (et (ae z) (et (ip f) (et (ae (bz G)) (et (ip I) (et (ip t) (et (ip h) (et (ae (bz Z)) (et (ip B) (et (ip R) (et (ip M) (et (ip S) (et (ip C) (et (ae (bz aA)) (et (ip J) (et (ae (bz aD)) (iN E))))))))))))))))))))))))))
 exact⟨rfl,mV⟩
 refine Sz (dF J) (Sz (dF J) (Sz (dF J) (Sz (dF J) (Sz (dF J) (Sz (dF J) (fw (.bool false) (Gm rfl (dF J) rfl) (Mz rfl (Sz rfl (Sz rfl (Sz rfl (Sz rfl (Sz rfl (Sz rfl (Sz rfl (fw (.bool false) (Gm rfl rfl rfl) (Mz rfl (Sz rfl (Sz rfl (Sz rfl (Sz rfl (Sz rfl (Sz rfl (Sz rfl (Sz rfl (Sz rfl (fw (.bool false) (Gm rfl rfl rfl) (Mz rfl (Sz rfl (Sz rfl (Sz rfl (Sz rfl (fw (.bool false) (Gm rfl rfl rfl) (Mz rfl (Sz rfl (Sz rfl (Sz rfl (Sz rfl (Sz rfl (Sz rfl ?_)))))))))))))))))))))))))))))))))))))))
 refine fw (.bool false) (Gm rfl rfl rfl) (Mz rfl (Sz rfl (Sz rfl (fw (.bool false) (Gm rfl rfl rfl) (Mz rfl (Sz rfl (Sz rfl (Sz rfl (Sz rfl (fw (.bool false) (Gm rfl rfl rfl) (Mz rfl (Sz rfl (Sz rfl (Sz rfl (fw (.bool false) (Gm rfl rfl rfl) (An rfl (rt (rs ?_))))))))))))))))))
 have mW:=b.pk []
 obtain rfl:_=false:=zj hr (et (ae T) (et (ip af) (et (ae K) (et (ae j) (et (ae l) (et (ae o) (et (ae x) (et (ae p) (et (ae r) (et (ae s) (et (ae z) (et (ip f) (et (ae (bz G)) (et (ip I) (et (ip t) (et (ip h) (et (ae (bz Z)) (et (ip B) (et (ip R) (et (ip M) (et (ip S) (et (ip C) (et (ae (bz aA)) (iN J))))))))))))))))))))))))
 exact⟨rfl,mW⟩
 refine Sz (dF C) (Sz (dF C) (Sz (dF C) (Sz (dF C) (Sz (dF C) (Sz (dF C) (fw (.bool false) (Gm rfl (dF C) rfl) (Mz rfl (Sz rfl (Sz rfl (Sz rfl (Sz rfl (Sz rfl (Sz rfl (fw (.bool false) (Gm rfl rfl rfl) (Mz rfl (Sz rfl (Sz rfl (Sz rfl (Sz rfl (Sz rfl (Sz rfl (Sz rfl (fw (.bool false) (Gm rfl rfl rfl) (Mz rfl (Sz rfl (Sz rfl (Sz rfl (Sz rfl (Sz rfl (Sz rfl (Sz rfl (Sz rfl (Sz rfl (fw (.bool false) (Gm rfl rfl rfl) (Mz rfl (Sz rfl (Sz rfl (Sz rfl (Sz rfl ?_)))))))))))))))))))))))))))))))))))))))
 refine fw (.bool false) (Gm rfl rfl rfl) (Mz rfl (Sz rfl (Sz rfl (Sz rfl (Sz rfl (Sz rfl (Sz rfl (fw (.bool false) (Gm rfl rfl rfl) (Mz rfl (Sz rfl (Sz rfl (fw (.bool false) (Gm rfl rfl rfl) (Mz rfl (Sz rfl (Sz rfl (Sz rfl (Sz rfl (fw (.bool false) (Gm rfl rfl rfl) (Mz rfl (Sz rfl (Sz rfl (Sz rfl (fw (.bool false) (Gm rfl rfl rfl) (An rfl (rt (rs ?_))))))))))))))))))))))))))
 have mX:=b.pk []
 obtain rfl:_=false:=zj hr (et (ae T) (et (ip af) (et (ae K) (et (ae j) (et (ae l) (et (ae o) (et (ae x) (et (ae p) (et (ae r) (et (ae s) (et (ae z) (et (ip f) (et (ae (bz G)) (et (ip I) (et (ip t) (et (ip h) (et (ae (bz Z)) (et (ip B) (et (ip R) (et (ip M) (et (ip S) (iN C))))))))))))))))))))))
 exact⟨rfl,mX⟩
 refine Sz (dF S) (Sz (dF S) (Sz (dF S) (Sz (dF S) (fw (.bool false) (Gm rfl (dF S) rfl) (Mz rfl (Sz rfl (Sz rfl (Sz rfl (Sz rfl (Sz rfl (Sz rfl (fw (.bool false) (Gm rfl rfl rfl) (Mz rfl (Sz rfl (Sz rfl (Sz rfl (Sz rfl (Sz rfl (Sz rfl (fw (.bool false) (Gm rfl rfl rfl) (Mz rfl (Sz rfl (Sz rfl (Sz rfl (Sz rfl (Sz rfl (Sz rfl (Sz rfl (fw (.bool false) (Gm rfl rfl rfl) (Mz rfl (Sz rfl (Sz rfl (Sz rfl (Sz rfl (Sz rfl (Sz rfl (Sz rfl (Sz rfl (Sz rfl ?_)))))))))))))))))))))))))))))))))))))))
 refine fw (.bool false) (Gm rfl rfl rfl) (Mz rfl (Sz rfl (Sz rfl (Sz rfl (Sz rfl (fw (.bool false) (Gm rfl rfl rfl) (Mz rfl (Sz rfl (Sz rfl (Sz rfl (Sz rfl (Sz rfl (Sz rfl (fw (.bool false) (Gm rfl rfl rfl) (Mz rfl (Sz rfl (Sz rfl (fw (.bool false) (Gm rfl rfl rfl) (Mz rfl (Sz rfl (Sz rfl (Sz rfl (Sz rfl (fw (.bool false) (Gm rfl rfl rfl) (Mz rfl (Sz rfl (Sz rfl (Sz rfl (fw (.bool false) (Gm rfl rfl rfl) (An rfl (rt (rs ?_))))))))))))))))))))))))))))))))
 have mY:=b.pk []
 obtain rfl:_=false:=zj hr (et (ae T) (et (ip af) (et (ae K) (et (ae j) (et (ae l) (et (ae o) (et (ae x) (et (ae p) (et (ae r) (et (ae s) (et (ae z) (et (ip f) (et (ae (bz G)) (et (ip I) (et (ip t) (et (ip h) (et (ae (bz Z)) (et (ip B) (et (ip R) (et (ip M) (iN S)))))))))))))))))))))
 exact⟨rfl,mY⟩
 refine Sz (dF M) (Sz (dF M) (Sz (dF M) (Sz (dF M) (fw (.bool false) (Gm rfl (dF M) rfl) (Mz rfl (Sz rfl (Sz rfl (Sz rfl (Sz rfl (fw (.bool false) (Gm rfl rfl rfl) (Mz rfl (Sz rfl (Sz rfl (Sz rfl (Sz rfl (Sz rfl (Sz rfl (fw (.bool false) (Gm rfl rfl rfl) (Mz rfl (Sz rfl (Sz rfl (Sz rfl (Sz rfl (Sz rfl (Sz rfl (fw (.bool false) (Gm rfl rfl rfl) (Mz rfl (Sz rfl (Sz rfl (Sz rfl (Sz rfl (Sz rfl (Sz rfl (Sz rfl (fw (.bool false) (Gm rfl rfl rfl) (Mz rfl (Sz rfl (Sz rfl (Sz rfl ?_)))))))))))))))))))))))))))))))))))))))
 refine Sz rfl (Sz rfl (Sz rfl (Sz rfl (Sz rfl (Sz rfl (fw (.bool false) (Gm rfl rfl rfl) (Mz rfl (Sz rfl (Sz rfl (Sz rfl (Sz rfl (fw (.bool false) (Gm rfl rfl rfl) (Mz rfl (Sz rfl (Sz rfl (Sz rfl (Sz rfl (Sz rfl (Sz rfl (fw (.bool false) (Gm rfl rfl rfl) (Mz rfl (Sz rfl (Sz rfl (fw (.bool false) (Gm rfl rfl rfl) (Mz rfl (Sz rfl (Sz rfl (Sz rfl (Sz rfl (fw (.bool false) (Gm rfl rfl rfl) (Mz rfl (Sz rfl (Sz rfl (Sz rfl (fw (.bool false) (Gm rfl rfl rfl) (An rfl (rt ?_)))))))))))))))))))))))))))))))))))))
 refine rs ?_
 have mZ:=b.pk []
 obtain rfl:_=false:=zj hr (et (ae T) (et (ip af) (et (ae K) (et (ae j) (et (ae l) (et (ae o) (et (ae x) (et (ae p) (et (ae r) (et (ae s) (et (ae z) (et (ip f) (et (ae (bz G)) (et (ip I) (et (ip t) (et (ip h) (et (ae (bz Z)) (et (ip B) (et (ip R) (iN M))))))))))))))))))))
 exact⟨rfl,mZ⟩
 refine Sz (dF R) (Sz (dF R) (Sz (dF R) (fw (.bool false) (Gm rfl (dF R) rfl) (Mz rfl (Sz rfl (Sz rfl (Sz rfl (Sz rfl (fw (.bool false) (Gm rfl rfl rfl) (Mz rfl (Sz rfl (Sz rfl (Sz rfl (Sz rfl (fw (.bool false) (Gm rfl rfl rfl) (Mz rfl (Sz rfl (Sz rfl (Sz rfl (Sz rfl (Sz rfl (Sz rfl (fw (.bool false) (Gm rfl rfl rfl) (Mz rfl (Sz rfl (Sz rfl (Sz rfl (Sz rfl (Sz rfl (Sz rfl (fw (.bool false) (Gm rfl rfl rfl) (Mz rfl (Sz rfl (Sz rfl (Sz rfl (Sz rfl (Sz rfl (Sz rfl (Sz rfl ?_)))))))))))))))))))))))))))))))))))))))
 refine fw (.bool false) (Gm rfl rfl rfl) (Mz rfl (Sz rfl (Sz rfl (Sz rfl (Sz rfl (Sz rfl (Sz rfl (Sz rfl (Sz rfl (Sz rfl (fw (.bool false) (Gm rfl rfl rfl) (Mz rfl (Sz rfl (Sz rfl (Sz rfl (Sz rfl (fw (.bool false) (Gm rfl rfl rfl) (Mz rfl (Sz rfl (Sz rfl (Sz rfl (Sz rfl (Sz rfl (Sz rfl (fw (.bool false) (Gm rfl rfl rfl) (Mz rfl (Sz rfl (Sz rfl (fw (.bool false) (Gm rfl rfl rfl) (Mz rfl (Sz rfl (Sz rfl (Sz rfl (Sz rfl (fw (.bool false) (Gm rfl rfl rfl) (Mz rfl (Sz rfl (Sz rfl (Sz rfl ?_)))))))))))))))))))))))))))))))))))))))
 refine fw (.bool false) (Gm rfl rfl rfl) (An rfl (rt (rs ?_)))
 have ng:=b.pk []
 obtain rfl:_=false:=zj hr (et (ae T) (et (ip af) (et (ae K) (et (ae j) (et (ae l) (et (ae o) (et (ae x) (et (ae p) (et (ae r) (et (ae s) (et (ae z) (et (ip f) (et (ae (bz G)) (et (ip I) (et (ip t) (et (ip h) (et (ae (bz Z)) (et (ip B) (iN R)))))))))))))))))))
 exact⟨rfl,ng⟩
 refine Sz (dF B) (Sz (dF B) (Sz (dF B) (Sz (dF B) (fw (.bool false) (Gm rfl (dF B) rfl) (Mz rfl (Sz rfl (Sz rfl (Sz rfl (fw (.bool false) (Gm rfl rfl rfl) (Mz rfl (Sz rfl (Sz rfl (Sz rfl (Sz rfl (fw (.bool false) (Gm rfl rfl rfl) (Mz rfl (Sz rfl (Sz rfl (Sz rfl (Sz rfl (fw (.bool false) (Gm rfl rfl rfl) (Mz rfl (Sz rfl (Sz rfl (Sz rfl (Sz rfl (Sz rfl (Sz rfl (fw (.bool false) (Gm rfl rfl rfl) (Mz rfl (Sz rfl (Sz rfl (Sz rfl (Sz rfl (Sz rfl (Sz rfl (fw (.bool false) (Gm rfl rfl rfl) (Mz rfl (Sz rfl ?_)))))))))))))))))))))))))))))))))))))))
 refine Sz rfl (Sz rfl (Sz rfl (Sz rfl (Sz rfl (Sz rfl (fw (.bool false) (Gm rfl rfl rfl) (Mz rfl (Sz rfl (Sz rfl (Sz rfl (Sz rfl (Sz rfl (Sz rfl (Sz rfl (Sz rfl (Sz rfl (fw (.bool false) (Gm rfl rfl rfl) (Mz rfl (Sz rfl (Sz rfl (Sz rfl (Sz rfl (fw (.bool false) (Gm rfl rfl rfl) (Mz rfl (Sz rfl (Sz rfl (Sz rfl (Sz rfl (Sz rfl (Sz rfl (fw (.bool false) (Gm rfl rfl rfl) (Mz rfl (Sz rfl (Sz rfl (fw (.bool false) (Gm rfl rfl rfl) (Mz rfl (Sz rfl (Sz rfl (Sz rfl ?_)))))))))))))))))))))))))))))))))))))))
 refine Sz rfl (fw (.bool false) (Gm rfl rfl rfl) (Mz rfl (Sz rfl (Sz rfl (Sz rfl (fw (.bool false) (Gm rfl rfl rfl) (An rfl (rt (rs ?_)))))))))
 have ni:=b.pk []
 obtain rfl:_=false:=zj hr (et (ae T) (et (ip af) (et (ae K) (et (ae j) (et (ae l) (et (ae o) (et (ae x) (et (ae p) (et (ae r) (et (ae s) (et (ae z) (et (ip f) (et (ae (bz G)) (et (ip I) (et (ip t) (et (ip h) (et (ae (bz Z)) (iN B))))))))))))))))))
 exact⟨rfl,ni⟩
 refine Sz (dF h) (Sz (dF h) (Sz (dF h) (Sz (dF h) (Sz (dF h) (Sz (dF h) (fw (.bool false) (Gm rfl (dF h) rfl) (Mz rfl (Sz rfl (Sz rfl (Sz rfl (Sz rfl (fw (.bool false) (Gm rfl rfl rfl) (Mz rfl (Sz rfl (Sz rfl (Sz rfl (fw (.bool false) (Gm rfl rfl rfl) (Mz rfl (Sz rfl (Sz rfl (Sz rfl (Sz rfl (fw (.bool false) (Gm rfl rfl rfl) (Mz rfl (Sz rfl (Sz rfl (Sz rfl (Sz rfl (fw (.bool false) (Gm rfl rfl rfl) (Mz rfl (Sz rfl (Sz rfl (Sz rfl (Sz rfl (Sz rfl (Sz rfl (fw (.bool false) (Gm rfl rfl rfl) (Mz rfl (Sz rfl ?_)))))))))))))))))))))))))))))))))))))))
 refine Sz rfl (Sz rfl (Sz rfl (Sz rfl (Sz rfl (fw (.bool false) (Gm rfl rfl rfl) (Mz rfl (Sz rfl (Sz rfl (Sz rfl (Sz rfl (Sz rfl (Sz rfl (Sz rfl (fw (.bool false) (Gm rfl rfl rfl) (Mz rfl (Sz rfl (Sz rfl (Sz rfl (Sz rfl (Sz rfl (Sz rfl (Sz rfl (Sz rfl (Sz rfl (fw (.bool false) (Gm rfl rfl rfl) (Mz rfl (Sz rfl (Sz rfl (Sz rfl (Sz rfl (fw (.bool false) (Gm rfl rfl rfl) (Mz rfl (Sz rfl (Sz rfl (Sz rfl (Sz rfl (Sz rfl (Sz rfl (fw (.bool false) (Gm rfl rfl rfl) ?_)))))))))))))))))))))))))))))))))))))))
 refine Mz rfl (Sz rfl (Sz rfl (fw (.bool false) (Gm rfl rfl rfl) (Mz rfl (Sz rfl (Sz rfl (Sz rfl (Sz rfl (fw (.bool false) (Gm rfl rfl rfl) (Mz rfl (Sz rfl (Sz rfl (Sz rfl (fw (.bool false) (Gm rfl rfl rfl) (An rfl (rt (rs ?_)))))))))))))))))
 have nk:=b.pk []
 obtain rfl:_=false:=zj hr (et (ae T) (et (ip af) (et (ae K) (et (ae j) (et (ae l) (et (ae o) (et (ae x) (et (ae p) (et (ae r) (et (ae s) (et (ae z) (et (ip f) (et (ae (bz G)) (et (ip I) (et (ip t) (iN h))))))))))))))))
 exact⟨rfl,nk⟩
 refine Sz t (Sz t (Sz t (Sz t (fw (.bool false) (Gm rfl t rfl) (Mz rfl (Sz rfl (Sz rfl (Sz rfl (Sz rfl (Sz rfl (Sz rfl (fw (.bool false) (Gm rfl rfl rfl) (Mz rfl (Sz rfl (Sz rfl (Sz rfl (Sz rfl (fw (.bool false) (Gm rfl rfl rfl) (Mz rfl (Sz rfl (Sz rfl (Sz rfl (fw (.bool false) (Gm rfl rfl rfl) (Mz rfl (Sz rfl (Sz rfl (Sz rfl (Sz rfl (fw (.bool false) (Gm rfl rfl rfl) (Mz rfl (Sz rfl (Sz rfl (Sz rfl (Sz rfl (fw (.bool false) (Gm rfl rfl rfl) (Mz rfl (Sz rfl (Sz rfl (Sz rfl ?_)))))))))))))))))))))))))))))))))))))))
 refine Sz rfl (Sz rfl (Sz rfl (fw (.bool false) (Gm rfl rfl rfl) (Mz rfl (Sz rfl (Sz rfl (Sz rfl (Sz rfl (Sz rfl (Sz rfl (fw (.bool false) (Gm rfl rfl rfl) (Mz rfl (Sz rfl (Sz rfl (Sz rfl (Sz rfl (Sz rfl (Sz rfl (Sz rfl (fw (.bool false) (Gm rfl rfl rfl) (Mz rfl (Sz rfl (Sz rfl (Sz rfl (Sz rfl (Sz rfl (Sz rfl (Sz rfl (Sz rfl (Sz rfl (fw (.bool false) (Gm rfl rfl rfl) (Mz rfl (Sz rfl (Sz rfl (Sz rfl (Sz rfl (fw (.bool false) (Gm rfl rfl rfl) (Mz rfl (Sz rfl ?_)))))))))))))))))))))))))))))))))))))))
 refine Sz rfl (Sz rfl (Sz rfl (Sz rfl (Sz rfl (fw (.bool false) (Gm rfl rfl rfl) (Mz rfl (Sz rfl (Sz rfl (fw (.bool false) (Gm rfl rfl rfl) (Mz rfl (Sz rfl (Sz rfl (Sz rfl (Sz rfl (fw (.bool false) (Gm rfl rfl rfl) (Mz rfl (Sz rfl (Sz rfl (Sz rfl (fw (.bool false) (Gm rfl rfl rfl) (An rfl (rt (rs ?_)))))))))))))))))))))))
 have nu:=b.pk []
 obtain rfl:_=false:=zj hr (et (ae T) (et (ip af) (et (ae K) (et (ae j) (et (ae l) (et (ae o) (et (ae x) (et (ae p) (et (ae r) (et (ae s) (et (ae z) (et (ip f) (et (ae (bz G)) (et (ip I) (dY t)))))))))))))))
 exact⟨rfl,nu⟩
 refine Sz (dF I) (Sz (dF I) (fw (.bool false) (Gm rfl (dF I) rfl) (Mz rfl (Sz rfl (Sz rfl (Sz rfl (Sz rfl (fw (.bool false) (Gm rfl rfl rfl) (Mz rfl (Sz rfl (Sz rfl (Sz rfl (Sz rfl (Sz rfl (Sz rfl (fw (.bool false) (Gm rfl rfl rfl) (Mz rfl (Sz rfl (Sz rfl (Sz rfl (Sz rfl (fw (.bool false) (Gm rfl rfl rfl) (Mz rfl (Sz rfl (Sz rfl (Sz rfl (fw (.bool false) (Gm rfl rfl rfl) (Mz rfl (Sz rfl (Sz rfl (Sz rfl (Sz rfl (fw (.bool false) (Gm rfl rfl rfl) (Mz rfl (Sz rfl (Sz rfl (Sz rfl (Sz rfl (fw (.bool false) (Gm rfl rfl rfl) ?_)))))))))))))))))))))))))))))))))))))))
 refine Mz rfl (Sz rfl (Sz rfl (Sz rfl (Sz rfl (Sz rfl (Sz rfl (fw (.bool false) (Gm rfl rfl rfl) (Mz rfl (Sz rfl (Sz rfl (Sz rfl (Sz rfl (Sz rfl (Sz rfl (fw (.bool false) (Gm rfl rfl rfl) (Mz rfl (Sz rfl (Sz rfl (Sz rfl (Sz rfl (Sz rfl (Sz rfl (Sz rfl (fw (.bool false) (Gm rfl rfl rfl) (Mz rfl (Sz rfl (Sz rfl (Sz rfl (Sz rfl (Sz rfl (Sz rfl (Sz rfl (Sz rfl (Sz rfl (fw (.bool false) (Gm rfl rfl rfl) (Mz rfl (Sz rfl (Sz rfl (Sz rfl ?_)))))))))))))))))))))))))))))))))))))))
 refine Sz rfl (fw (.bool false) (Gm rfl rfl rfl) (Mz rfl (Sz rfl (Sz rfl (Sz rfl (Sz rfl (Sz rfl (Sz rfl (fw (.bool false) (Gm rfl rfl rfl) (Mz rfl (Sz rfl (Sz rfl (fw (.bool false) (Gm rfl rfl rfl) (Mz rfl (Sz rfl (Sz rfl (Sz rfl (Sz rfl (fw (.bool false) (Gm rfl rfl rfl) (Mz rfl (Sz rfl (Sz rfl (Sz rfl (fw (.bool false) (Gm rfl rfl rfl) (An rfl (rt (rs ?_)))))))))))))))))))))))))))
 have ny:=b.pk []
 obtain rfl:_=false:=zj hr (et (ae T) (et (ip af) (et (ae K) (et (ae j) (et (ae l) (et (ae o) (et (ae x) (et (ae p) (et (ae r) (et (ae s) (et (ae z) (et (ip f) (et (ae (bz G)) (iN I))))))))))))))
 exact⟨rfl,ny⟩
 refine Sz (dF f) (Sz (dF f) (Sz (dF f) (Sz (dF f) (Sz (dF f) (Sz (dF f) (fw (.bool false) (Gm rfl (dF f) rfl) (Mz rfl (Sz rfl (Sz rfl (fw (.bool false) (Gm rfl rfl rfl) (Mz rfl (Sz rfl (Sz rfl (Sz rfl (Sz rfl (fw (.bool false) (Gm rfl rfl rfl) (Mz rfl (Sz rfl (Sz rfl (Sz rfl (Sz rfl (Sz rfl (Sz rfl (fw (.bool false) (Gm rfl rfl rfl) (Mz rfl (Sz rfl (Sz rfl (Sz rfl (Sz rfl (fw (.bool false) (Gm rfl rfl rfl) (Mz rfl (Sz rfl (Sz rfl (Sz rfl (fw (.bool false) (Gm rfl rfl rfl) (Mz rfl (Sz rfl (Sz rfl (Sz rfl ?_)))))))))))))))))))))))))))))))))))))))
 refine Sz rfl (fw (.bool false) (Gm rfl rfl rfl) (Mz rfl (Sz rfl (Sz rfl (Sz rfl (Sz rfl (fw (.bool false) (Gm rfl rfl rfl) (Mz rfl (Sz rfl (Sz rfl (Sz rfl (Sz rfl (Sz rfl (Sz rfl (fw (.bool false) (Gm rfl rfl rfl) (Mz rfl (Sz rfl (Sz rfl (Sz rfl (Sz rfl (Sz rfl (Sz rfl (fw (.bool false) (Gm rfl rfl rfl) (Mz rfl (Sz rfl (Sz rfl (Sz rfl (Sz rfl (Sz rfl (Sz rfl (Sz rfl (fw (.bool false) (Gm rfl rfl rfl) (Mz rfl (Sz rfl (Sz rfl (Sz rfl (Sz rfl (Sz rfl (Sz rfl ?_)))))))))))))))))))))))))))))))))))))))
 refine Sz rfl (Sz rfl (Sz rfl (fw (.bool false) (Gm rfl rfl rfl) (Mz rfl (Sz rfl (Sz rfl (Sz rfl (Sz rfl (fw (.bool false) (Gm rfl rfl rfl) (Mz rfl (Sz rfl (Sz rfl (Sz rfl (Sz rfl (Sz rfl (Sz rfl (fw (.bool false) (Gm rfl rfl rfl) (Mz rfl (Sz rfl (Sz rfl (fw (.bool false) (Gm rfl rfl rfl) (Mz rfl (Sz rfl (Sz rfl (Sz rfl (Sz rfl (fw (.bool false) (Gm rfl rfl rfl) (Mz rfl (Sz rfl (Sz rfl (Sz rfl (fw (.bool false) (Gm rfl rfl rfl) (An rfl (rt (rs ?_)))))))))))))))))))))))))))))))))))
 have nz:=b.pk []
 obtain rfl:_=false:=zj hr (et (ae T) (et (ip af) (et (ae K) (et (ae j) (et (ae l) (et (ae o) (et (ae x) (et (ae p) (et (ae r) (et (ae s) (et (ae z) (iN f))))))))))))
 exact⟨rfl,nz⟩
 refine Sz (dT af) (Sz (dT af) (fw (.bool true) (Gu rfl (dT af) rfl) (nt (jt (sr (Az rfl (An rfl (rt (tR (GM (j6 rfl rfl rfl) (Mz rfl (Kz (.pointer none) (Kz (vI 1) (Az rfl (An rfl (Gp (Gp ?_)))))))))))))))))
 have nA:=iC.pk []
 refine Gq (Mz rfl (Kz (.bool true) (Mz rfl (Sz rfl (Sz rfl (fw (.bool true) (Gu rfl rfl rfl) (nt (jt (sr (An rfl (rt (tR (rs ?_)))))))))))))
 have nC:=nA.pk []
 obtain rfl:_=false:=zj hr (et (ae T) (iN af))
 exact⟨rfl,nC⟩
end
section
open Go.RowKit
@[reducible] def kU (n:Nat):Value:= .int .u64 ((n:Nat):Int)
theorem Dw {P:Program} {kt:TypeId} (hk:P.underlying kt=some (.int .u64)):xe P kt kU:=by
  refine⟨⟨_,hk,λ a=>by simp [Go.MapKept.IsKey]⟩,λ a b h=> ?_,λ a=> ?_⟩
  . injection h with _ h
    exact Int.ofNat.inj h
  . simp [Instr.sameBits]
section
variable {κ ν:Type} [DecidableEq κ] {P:Program} {n:Nat} {F:List (Nat × Value)} {w0 w:World} {D:Nat->Prop} {L:List HP} {ty t kt e:TypeId} {x y:Operand} {ek:κ->Value} {vv:ν->Value} {m:List (κ × ν)} {g i:Nat} {d0:ν}
end
end
open IntKind renaming i64->v7
open List renaming length_map->r5
open _root_.Go.Proofs.Tryz renaming prog->u2,underlying32->D2,underlying43->T1
open WL renaming nil->v8
open Wp renaming exit->v9
section
open Go.RowKit
theorem Gf:Elem u2 22 49 22 240:=mh (z:= .agg #[.int .i64 0, .int .i64 0, .int .i64 0, .int .i64 0, .int .i64 0, .int .i64 0, .int .u64 0, .int .u64 0, .int .u64 0, .int .u64 0, .int .u64 0, .int .u64 0, .int .u64 0, .int .u64 0, .int .u64 0, .bool false, .string ⟨u3 []⟩, .string ⟨u3 []⟩, .slice none 0 0, .slice none 0 0, .slice none 0 0, .bool false]) Tryz.underlying22 e9 rfl f5
structure iV where
 bB:bV
 yF:Bool
def iV.cells (x:iV):List Value:= [.int .i64 x.bB.az, .int .i64 x.bB.iO, .int .i64 x.bB.jD, .int .i64 x.bB.gJ, .int .i64 x.bB.fG, .int .i64 x.bB.iB, .int .u64 ((x.bB.gp:Nat):Int), .int .u64 ((x.bB.aT:Nat):Int), .int .u64 ((x.bB.aV:Nat):Int), .int .u64 ((x.bB.bi:Nat):Int), .int .u64 ((x.bB.bv:Nat):Int), .int .u64 ((x.bB.aL:Nat):Int), .int .u64 ((x.bB.aG:Nat):Int), .int .u64 ((x.bB.bu:Nat):Int), .int .u64 ((x.bB.xN:Nat):Int), .bool x.bB.fZ, .string ⟨u3 x.bB.aB.aO⟩, .string ⟨u3 x.bB.aB.aS⟩, .slice x.bB.aJ.A x.bB.aJ.ls.length x.bB.aJ.c, .slice x.bB.aQ.A x.bB.aQ.ls.length x.bB.aQ.c, .slice x.bB.ah.A x.bB.ah.ls.length x.bB.ah.c, .bool x.yF]
instance:Bk iV:=⟨λ x _=>bk x.bB+(bk x.yF+(0))⟩
theorem iV.len:∀ x,(iV.cells x).length=22:=λ _=>rfl
theorem iV.one:∀ x, ∀ u ∈ iV.cells x,u.oneCell'=true:=λ x u hu=>by
 simp only [iV.cells,List.mem_cons,u4,or_false] at hu
 rcases hu with rfl | rfl | rfl | rfl | rfl | rfl | rfl | rfl | rfl | rfl | rfl | rfl | rfl | rfl | rfl | rfl | rfl | rfl | rfl | rfl | rfl | rfl <;> rfl
def IQ (w:World) (x:iV):Prop:=(Ja w x.bB)/\(True)
theorem Ba (w:World):kR u2 w 49 22 iV.cells (IQ w):=
 (mo (sz:=22) Tryz.underlying49 e9 (fB.cons (i:=0) (off:=0) (s:=21) rfl rfl (BS w) (fB.cons (i:=1) (off:=21) (s:=1) rfl rfl (uM Tryz.underlying4 e9) fB.nil))).map (λ p=>⟨p.1,p.2.1⟩) iV.len (λ _=>rfl) (λ _ h=>⟨h.1,h.2.1⟩) λ _=>Nat.le_refl _
instance:Inhabited iV:=⟨⟨default,default⟩⟩
structure StepT where
 bB:dM
 yF:Bool
instance:Inhabited StepT:=⟨⟨default,default⟩⟩
def iV.abs (x:iV):StepT:=⟨x.bB.abs,x.yF⟩
def Kc (x:iV):List HP:= [row x.bB.aJ.A x.bB.aJ.ls.length x.bB.aJ.c (q0 aY.cells x.bB.aJ.ls) 68 6,row x.bB.aQ.A x.bB.aQ.ls.length x.bB.aQ.c (q0 aP.cells x.bB.aQ.ls) 70 3,row x.bB.ah.A x.bB.ah.ls.length x.bB.ah.c (q0 bL.cells x.bB.ah.ls) 83 2,sepL (q0 G8 x.bB.aQ.ls)]
abbrev FI (s:Int) (t:Int) (u:Int) (v:Int) (w:Int) (x:Int) (y:Nat) (z:Nat) (A:Nat) (B:Nat) (g:Nat) (h:Nat) (i:Nat) (j:Nat) (k:Nat) (l:Bool) (m:List UInt8) (n:List UInt8) (o:Option Addr) (a b:Nat) (p:Option Addr) (c d:Nat) (q:Option Addr) (e f:Nat) (r:Bool):List Value:= [.int .i64 s, .int .i64 t, .int .i64 u, .int .i64 v, .int .i64 w, .int .i64 x, .int .u64 ((y:Nat):Int), .int .u64 ((z:Nat):Int), .int .u64 ((A:Nat):Int), .int .u64 ((B:Nat):Int), .int .u64 ((g:Nat):Int), .int .u64 ((h:Nat):Int), .int .u64 ((i:Nat):Int), .int .u64 ((j:Nat):Int), .int .u64 ((k:Nat):Int), .bool l, .string ⟨u3 m⟩, .string ⟨u3 n⟩, .slice o a b, .slice p c d, .slice q e f, .bool r]
def fA (n:Bool) (c:bA):List StepT->List dD->List Nat->Nat->List bG->List aK->List aA->List (Nat × Bool)->Unit ⊕ Bool
  | [],g,h,i,j,k,e,f=>Sum.inl ()
  | a::l,g,h,i,j,k,e,f=>if a.bB.az=3 then bnd (dU (ax.mk (bA.mk c.bC (E0 (F1.wrap ((c.aT:Int)+1))) c.bv c.aL c.aG (D4 c.ah.ls) (D4 g) (D4 h) i c.aM c.aH c.aF) (D4 j)) (dM.mk a.bB.az a.bB.iO a.bB.jD a.bB.gJ a.bB.fG a.bB.iB a.bB.gp a.bB.aT a.bB.aV a.bB.bi a.bB.bv a.bB.aL a.bB.aG a.bB.bu a.bB.xN a.bB.fZ a.bB.aB (D4 a.bB.aJ.ls) (D4 a.bB.aQ.ls) (D4 a.bB.ah.ls)) (StoreT.mk (D4 e)) (aZ.mk (D4 k))) λ d=>bnd (rH e d.1.aI.ls) λ o=>if(d.1.aI.ls.length:Int)=0 then fA n c l d.2.2.1.aa.ak.ls d.2.2.1.aa.af.ls d.2.2.1.aa.bi d.2.2.1.ag.ls d.2.2.2.ai.ls o.1 f else Sum.inr (false) else if a.bB.az=5 then bnd (dU (ax.mk (bA.mk c.bC (E0 (F1.wrap ((c.aT:Int)+1))) c.bv c.aL c.aG (D4 c.ah.ls) (D4 g) (D4 h) i c.aM c.aH c.aF) (D4 j)) (dM.mk a.bB.az a.bB.iO a.bB.jD a.bB.gJ a.bB.fG a.bB.iB a.bB.gp a.bB.aT a.bB.aV a.bB.bi a.bB.bv a.bB.aL a.bB.aG a.bB.bu a.bB.xN a.bB.fZ a.bB.aB (D4 a.bB.aJ.ls) (D4 a.bB.aQ.ls) (D4 a.bB.ah.ls)) (StoreT.mk (D4 e)) (aZ.mk (D4 k))) λ b=>bnd (rH e b.1.aI.ls) λ m=>if(b.1.aI.ls.length:Int)=0 then fA n c l b.2.2.1.aa.ak.ls b.2.2.1.aa.af.ls b.2.2.1.aa.bi b.2.2.1.ag.ls b.2.2.2.ai.ls m.1 f else if a.bB.fZ=true then bnd (nT f a.bB.aV) λ p=>if Option.getD p false=true then Sum.inr (false) else fA n c l b.2.2.1.aa.ak.ls b.2.2.1.aa.af.ls b.2.2.1.aa.bi b.2.2.1.ag.ls b.2.2.2.ai.ls m.1 (fV f a.bB.aV true) else Sum.inr (false) else fA n c l g h i j k e f
def tT (d:List StepT):Bool:=
 bnd (uY) λ a=>bnd (lv (bA.mk 1 0 0 1 0 (D4 ([(bL.mk [] 1),(bL.mk ([109]) 2)])) (D4 []) (D4 []) 0 0 (aj.mk [] []) (iJ.mk 0 0 0 (aj.mk [] [])))) λ c=>if c=0 then bnd (iM (bA.mk 1 0 0 1 0 (D4 ([(bL.mk [] 1),(bL.mk ([109]) 2)])) (D4 []) (D4 []) 0 0 (aj.mk [] []) (iJ.mk 0 0 0 (aj.mk [] [])))) λ b=>if(d.length:Int) > 80 then if a=true then true else false else lp (fA a b d b.ak.ls b.af.ls b.bi [] [] [] []) λ _=>a else if a=true then false else false
theorem yE (w D A0 n0 c0 d0 K r0) (H:Own w D w []) (gW:r8 iV.abs d0=K) (fM:Ro w D λ w'=>bM w' 22 A0 n0 (q0 iV.cells d0)) (T:∀ x ∈ d0,Ro w D (λ w'=>bM w' 6 x.bB.aJ.A x.bB.aJ.ls.length (q0 aY.cells x.bB.aJ.ls))/\(x.bB.aJ.ls.length<=x.bB.aJ.c/\x.bB.aJ.ls.length<=9223372036854775807)/\Ro w D (λ w'=>bM w' 3 x.bB.aQ.A x.bB.aQ.ls.length (q0 aP.cells x.bB.aQ.ls))/\(x.bB.aQ.ls.length<=x.bB.aQ.c/\x.bB.aQ.ls.length<=9223372036854775807)/\(∀ y1 ∈ x.bB.aQ.ls,Ro w D (λ w'=>bM w' 2 y1.bq.A y1.bq.ls.length (q0 aA.cells y1.bq.ls))/\(y1.bq.ls.length<=y1.bq.c/\y1.bq.ls.length<=9223372036854775807))/\Ro w D (λ w'=>bM w' 2 x.bB.ah.A x.bB.ah.ls.length (q0 bL.cells x.bB.ah.ls))/\(x.bB.ah.ls.length<=x.bB.ah.c/\x.bB.ah.ls.length<=9223372036854775807)) (jZ:n0=K.length) (nz:K.length *240<=211106232532992) (nA:K.length *240<=140737488351232) (j3:∀ x ∈ K,x.bB.aV<=18446744073709551615/\x.bB.aJ.ls.length<=140737488351232/\x.bB.aQ.ls.length<=140737488351232/\x.bB.ah.ls.length<=140737488351232) (hr:tT K=r0):
    Calls u2 3 #[.slice A0 n0 c0] w (dG λ v w'=>v= .bool r0/\Own w D w' []):=by
 unfold tT at hr
 subst jZ
 have l6:=aW gW
 refine cb Tryz.func3 ?_
 refine sr (Ar rfl ?_)
 obtain⟨F,P⟩:∃ q,uY=q:=⟨_,rfl⟩
 obtain⟨nC,gX,l7,gY,l8⟩:=Gr H
 refine cl Tryz.call6 (A8 _ _ F gX P) ?_
 rintro _ nD ⟨rfl,gZ⟩
 have j4:=gY _ _ gZ
 refine Ar rfl (Kz (.agg #[.slice none 0 0]) ?_)
 refine bW [.slice none 0 0] 27 j4 ?_
 intro J nE j5
 refine Ar rfl ?_
 refine WL.do rfl (GV Tryz.call8 rfl ?_ (λ _ _ k=>k))
 refine cb Tryz.func8 ?_
 refine sr ?_
 refine bW (gU 0 0 0 0 0 none 0 0 none 0 0 none 0 0 0 0 [] [] 0 0 0 [] []) 41 j5 ?_
 intro nG nH kg
 refine ns (Kz (.agg #[.string ⟨u3 []⟩,vI 1]) (Kz (.agg #[.string ⟨u3 ([109])⟩,vI 2]) ?_))
 refine jE [.string ⟨u3 []⟩,vI 1, .string ⟨u3 ([109])⟩,vI 2] 83 2 2 kg ?_
 intro aL nI fP
 replace fP:=Ha (y:=row aL 2 2 (q0 bL.cells ([(bL.mk [] 1),(bL.mk ([109]) 2)])) 83 2) rfl fP
 refine Kz (.agg (gU 1 0 0 1 0 aL 2 2 none 0 0 none 0 0 0 0 [] [] 0 0 0 [] []).toArray) ?_
 have ko:=fP.pf [1]
 refine bY (gU 1 0 0 1 0 aL 2 2 none 0 0 none 0 0 0 0 [] [] 0 0 0 [] []) 0 ko D1 ?_
 intro nJ ib
 refine nt (rt (GM (oK rfl rfl (GJ (cs:=(gU 1 0 0 1 0 aL 2 2 none 0 0 none 0 0 0 0 [] [] 0 0 0 [] [])) D0 D1 ((ib.cls (i:=0) rfl).lit (k:=0) (m:=17) rfl))) (Mz rfl (Kz (.iface 24 (vP J 0)) ?_))))
 refine WL.do rfl (GV Tryz.call7 rfl ?_ (λ _ _ k=>k))
 refine cb Tryz.func7 ?_
 refine Gp ?_
 have kr:=ib.pk [1,2]
 refine Gq ?_
 refine bW (gU 1 0 0 1 0 aL 2 2 none 0 0 none 0 0 0 0 [] [] 0 0 0 [] []) 41 kr ?_
 intro ku nK ic
 refine Az rfl (An rfl (Gp (sr (La (gU 1 0 0 1 0 aL 2 2 none 0 0 none 0 0 0 0 [] [] 0 0 0 [] []) ic 0 D0 D1 ?_))))
 obtain⟨dX,Q⟩:∃ q,lv (bA.mk 1 0 0 1 0 (D4 ([(bL.mk [] 1),(bL.mk ([109]) 2)])) (D4 []) (D4 []) 0 0 (aj.mk [] []) (iJ.mk 0 0 0 (aj.mk [] [])))=q:=⟨_,rfl⟩
 obtain⟨nL,ig,l9,ik,il⟩:=Gr ic
 refine cl Tryz.call17 (qB _ _ (bA.mk 1 0 0 1 0 (D4 ([(bL.mk [] 1),(bL.mk ([109]) 2)])) (D4 []) (D4 []) 0 0 (aj.mk [] []) (iJ.mk 0 0 0 (aj.mk [] []))) aL 2 2 none 0 0 [] none 0 0 dX ig rfl (il _ 1 _ rfl bQ) f7 rfl rfl (λ _ _=>bM.nil _ _ _) f7 (λ _ h9=>absurd h9 u4) rfl (λ _ _=>bM.nil _ _ _) f7 g4 Q) ?_
 rintro _ nM ⟨rfl,iq⟩
 have fQ:=ik _ _ iq
 refine fw (.bool (decide (¬ (dX=0)))) (GN (e:= !(decide (dX=0))) yk decide_not.symm) (Mz rfl ?_)
 by_cases R:dX=0
 refine gw (.iface 24 (vP J 0)) (dF (Ko R)) (Gv rfl) (gw (.bool false) (dF (Ko R)) yk (fw (.bool false) (Gm rfl (dF (Ko R)) rfl) (nt (jf (sk (sr (La (gU 1 0 0 1 0 aL 2 2 none 0 0 none 0 0 0 0 [] [] 0 0 0 [] []) fQ 0 D0 D1 ?_)))))))
 obtain⟨b,M⟩:∃ q,iM (bA.mk 1 0 0 1 0 (D4 ([(bL.mk [] 1),(bL.mk ([109]) 2)])) (D4 []) (D4 []) 0 0 (aj.mk [] []) (iJ.mk 0 0 0 (aj.mk [] [])))=q:=⟨_,rfl⟩
 obtain⟨nN,iw,ma,iy,iA⟩:=Gr fQ
 refine cl Tryz.call18 (lQ _ _ (bA.mk 1 0 0 1 0 (D4 ([(bL.mk [] 1),(bL.mk ([109]) 2)])) (D4 []) (D4 []) 0 0 (aj.mk [] []) (iJ.mk 0 0 0 (aj.mk [] []))) aL 2 2 none 0 0 [] none 0 0 b iw rfl (iA _ 1 _ rfl bQ) f7 rfl rfl (λ _ _=>bM.nil _ _ _) f7 (λ _ h9=>absurd h9 u4) rfl (λ _ _=>bM.nil _ _ _) f7 g4 (by first | assumption | exact λ _ h9=>absurd h9 u4 | exact Tk.hops f6) M) ?_
 rintro _ nO ⟨bT,aV,fT,fU,fZ,gm,iB,rfl,iC,ek⟩
 have dZ:=iy _ _ iC
 have mf:=aW ek
 have mg:=zr 0 dZ
 have mh:=zr 1 dZ
 have mi:=zr 3 dZ
 have mo:b.ah.ls.length=2:=congrArg (λ q=>q.ah.ls.length) M.symm
 have mq:b.ak.ls.length=0:=congrArg (λ q=>q.ak.ls.length) M.symm
 have mr:b.af.ls.length=0:=congrArg (λ q=>q.af.ls.length) M.symm
 refine Mz rfl ?_
 refine WL.do rfl (GV Tryz.call19 rfl ?_ (λ _ _ k=>k))
 refine cb Tryz.func19 ?_
 refine sr (Ar rfl (Kz (.agg #[.slice none 0 0]) ?_))
 refine bW [.slice none 0 0] 114 dZ ?_
 intro bU nP kv
 refine An rfl (rt (rs (Kz (.agg #[vI b.bC,vU b.aT,vU b.bv,vU b.aL,vU b.aG, .slice bT b.ah.ls.length aV, .slice fT b.ak.ls.length fU, .slice fZ b.af.ls.length gm,vU b.bi,vU b.aM, .string ⟨u3 b.aH.aO⟩, .string ⟨u3 b.aH.aS⟩,vU b.aF.aG,vU b.aF.bu,vU b.aF.dA, .string ⟨u3 b.aF.aB.aO⟩, .string ⟨u3 b.aF.aB.aS⟩, .iface 24 (vP J 0), .slice none 0 0,vP bU 0, .pointer none]) ?_)))
 refine bW [vI b.bC,vU b.aT,vU b.bv,vU b.aL,vU b.aG, .slice bT b.ah.ls.length aV, .slice fT b.ak.ls.length fU, .slice fZ b.af.ls.length gm,vU b.bi,vU b.aM, .string ⟨u3 b.aH.aO⟩, .string ⟨u3 b.aH.aS⟩,vU b.aF.aG,vU b.aF.bu,vU b.aF.dA, .string ⟨u3 b.aF.aB.aO⟩, .string ⟨u3 b.aF.aB.aS⟩, .iface 24 (vP J 0), .slice none 0 0,vP bU 0, .pointer none] 80 kv ?_
 intro U nQ iD
 refine Ar rfl (Mz rfl (Kz (vP U 0) (Kz (vP U 0) (Kz (vP U 1) (Lz (vU b.aT) iD 0 C4 (fw (.int .u64 ((E0 (F1.wrap ((b.aT:Int)+1)):Nat):Int)) (Gw (e:=F1.wrap ((b.aT:Int)+1)) yk (kM _)) (Kz (vP U 0) (Kz (vP U 0) (Kz (vP U 1) ?_)))))))))
 refine bY [.int .u64 ((E0 (F1.wrap ((b.aT:Int)+1)):Nat):Int)] 1 iD Tryz.sizeOf32 ?_
 intro nR iE
 refine nt (Gp (sr (Kz (vP ku 6) (Lz (.slice none 0 0) iE 6 Tryz.isAgg34 (Kz (vI 0) (Mn rfl (bo (IV 200 (Gp ?_)))))))))
 have kw:=iE.px [] [6] []
 refine Gq (Kz (.bool false) (nt (Gp (jf (v9 (GK (GK (GR (Gs (sr (Mz rfl (Az rfl (An rfl (rt (GM (j6 rfl rfl rfl) (Mz rfl (Kz (vP U 0) (Kz (vI 0) (Az rfl (An rfl (Gp (Gp ?_))))))))))))))))))))))
 have gp:=kw.px [] [6] []
 refine Gq (Mz rfl (Kz (.bool false) (Mz rfl (gw (vI 0) rfl (Gv rfl) (Gz (.bool false) rfl (fw (.bool false) (Gm rfl rfl rfl) (Mz rfl (gw (.slice A0 K.length c0) rfl (Gv rfl) (Gz (vJ K.length) rfl (Gz (.bool (decide ((K.length:Int) > 80))) rfl (fw (.bool (decide ((K.length:Int) > 80))) (Gm rfl rfl rfl) (nt ?_))))))))))))
 by_cases aX:(K.length:Int) > 80
 refine jT (dT aX) (sr (Mz rfl (Mz rfl ?_)))
 rcases Kq (F) with aM | aM
 refine Hm (v:=vP U 0) rfl rfl aM rfl (Gv rfl) (Gz (.bool true) aM (fw (.bool true) (Gu rfl aM rfl) (An rfl (rt (tR (rs ?_))))))
 have ky:=gp.pk []
 obtain rfl:=zj hr zq6
 exact⟨rfl,ky⟩
 refine Sz aM (Sz aM (fw (.bool false) (Gm rfl aM rfl) (An rfl (rt (tR (rs ?_))))))
 have kz:=gp.pk []
 obtain rfl:=zj hr zq6
 exact⟨rfl,kz⟩
 refine jF (dF aX) (sk (sr ?_))
 refine WL.do rfl (I8 (κ:=Nat) (ν:=Bool) kU Value.bool gp ?_)
 intro d9 bZ kC
 refine An rfl (Gp (sr (Mz rfl (Kz (vJ K.length) (Mn rfl (bo ?_))))))
 have iF:Own w D bZ (sepL (q0 G5 [])::_):=kC.sepNil
 have iH:Own w D bZ (row none 0 0 (q0 aR.cells []) 99 4::_):=iF.free (bX 99 4)
 have iI:Own w D bZ (sepL (q0 GU [])::_):=iH.sepNil
 have iK:Own w D bZ (row none 0 0 (q0 ay.cells []) 164 6::_):=iI.free (bX 164 6)
 have iL:Own w D bZ (row none 0 0 (q0 aA.cells []) 101 2::_):=iK.free (bX 101 2)
 have iO:=iL.pb [9,10,11,3,4,1,2,0]
 obtain⟨iP,V⟩:=FY λ (d:Nat) av (az:Nat) Z h aB (aC:Nat) g (r:Nat) aD (aF:Nat) aa j aG (aH:Nat) af l X (N:Nat) f z w'=>Own w D w' [oM d9 kU Value.bool z,blk U [vI b.bC, .int .u64 ((E0 (F1.wrap ((b.aT:Int)+1)):Nat):Int),vU b.bv,vU b.aL,vU b.aG, .slice bT b.ah.ls.length aV, .slice av h.length az, .slice aB g.length aC,vU r,vU b.aM, .string ⟨u3 b.aH.aO⟩, .string ⟨u3 b.aH.aS⟩,vU b.aF.aG,vU b.aF.bu,vU b.aF.dA, .string ⟨u3 b.aF.aB.aO⟩, .string ⟨u3 b.aF.aB.aS⟩, .iface 24 (vP J 0), .slice aD j.length aF,vP bU 0, .pointer none] 80,blk bU [.slice aG l.length aH] 114,row bT b.ah.ls.length aV (q0 bL.cells b.ah.ls) 83 2,blk J [.slice X f.length N] 27,row av h.length az (q0 bg.cells Z) 60 2,sepL (q0 He Z),row aB g.length aC (q0 (eN .u64) g) 32 1,row aD j.length aF (q0 aR.cells aa) 99 4,sepL (q0 G5 aa),row aG l.length aH (q0 ay.cells af) 164 6,sepL (q0 GU af),row X f.length N (q0 aA.cells f) 101 2]/\r8 bg.abs Z=h/\r8 aR.abs aa=j/\r8 ay.abs af=l/\d<=K.length/\g.length<=b.af.ls.length+d/\Rs j h g l/\(g.length<=d/\f.length<=24 *d)/\fA F b K b.ak.ls b.af.ls b.bi [] [] [] []=fA F b (List.drop d K) h g r j l f z
 refine Wp.loop (λ i:Nat × (Option Addr) × Nat × (List bg) × (List dD) × (Option Addr) × Nat × (List Nat) × Nat × (Option Addr) × Nat × (List aR) × (List bG) × (Option Addr) × Nat × (List ay) × (List aK) × (Option Addr) × Nat × (List aA) × (List (Nat × Bool))=> [(2, .bool false),(41,vJ i.1),(40,vJ K.length),(39, .slice A0 K.length c0),(7, .map (some d9)),(5,vP U 0),(4,vP J 0),(3, .bool F)]) iP (λ i=>K.length - i.1) (0,fT,fU,iB,b.ak.ls,fZ,gm,b.af.ls,b.bi,none,0, [], [],none,0, [], [],none,0, [], []) ⟨rfl,rfl,rfl,rfl,rfl,rfl,rfl,rfl,trivial⟩ (V.2 ⟨iO,(show r8 bg.abs iB=b.ak.ls/\r8 aR.abs []=[]/\r8 ay.abs []=[]/\0<=K.length/\b.af.ls.length<=b.af.ls.length/\Rs [] b.ak.ls b.af.ls []/\(b.af.ls.length<=0/\0<=24 *0)/\fA F b K b.ak.ls b.af.ls b.bi [] [] [] []=fA F b (List.drop 0 K) b.ak.ls b.af.ls b.bi [] [] [] [] from ⟨by exact ek,by exact rfl,by exact rfl,e8,e8,by first | assumption | exact ed f6,by first | omega | (dsimp only; omega) | (simp only [H2]; omega),rfl⟩)⟩) ?_
 rintro ⟨d,av,az,Z,h,aB,aC,g,r,aD,aF,aa,j,aG,aH,af,l,X,N,f,z⟩ mD gq
 show Wp _ _ _ [(2, .bool false),(41,vJ d),(40,vJ K.length),(39, .slice A0 K.length c0),(7, .map (some d9)),(5,vP U 0),(4,vP J 0),(3, .bool F)] _ _
 obtain⟨bf,aN,aO,aQ,kD,kE,kF,kG,L⟩:=V.1 gq
 have kH:=aW aN
 have kI:=aW aO
 have kJ:=aW aQ
 refine sr (Kz (.bool (decide ((d:Int) < (K.length:Int)))) (nt (Gp ?_)))
 by_cases eu:(d:Int) < (K.length:Int)
 obtain⟨a,p⟩:=dI (ls:=d0) (i:=d) iV.len f5 (bf.ro fM) f2
 have cu:=fO gW p
 have kK:=(T _ (C1 p)).2.1
 have kL:=(T _ (C1 p)).2.2.2.1
 have kN:q5 (r8 aP.abs a.bB.aQ.ls)=a.bB.aQ.ls.length:=r5 ..
 have kP:=(T _ (C1 p)).2.2.2.2.2.2
 have kQ:a.bB.aV<=18446744073709551615/\a.bB.aJ.ls.length<=140737488351232/\a.bB.aQ.ls.length<=140737488351232/\a.bB.ah.ls.length<=140737488351232:=by have q:=j3 _ (C1 cu); exact⟨q.1,q.2.1,Nat.le_trans (Nat.le_of_eq (r5 ..).symm) q.2.2.1,q.2.2.2⟩
 have O:=drop_at cu
 refine jT (dT eu) (sk (Gp (bo (sr (fw (.pointer (some ⟨ab A0,ao A0+d *22,none⟩)) (GI (Gf) rfl rfl ((bf.ro fM).addr (i:=d) e8) e8) (fw (.agg (iV.cells a).toArray) (GH rfl (GJ (cs:=(iV.cells a)) Tryz.isAgg49 Tryz.sizeOf49 ((bf.ro fM).elem iV.len p f5))) ?_))))))
 refine bW (FI 0 0 0 0 0 0 0 0 0 0 0 0 0 0 0 false [] [] none 0 0 none 0 0 none 0 0 false) 49 bf ?_
 intro B mE iQ
 refine bY (iV.cells a) 0 iQ Tryz.sizeOf49 ?_
 intro mF ag
 refine nt (Gp (sr (Kz (vP B 0) (Kz (vP B 0) (Lz (vI a.bB.az) ag 0 v5 (fw (.bool (decide (¬ (a.bB.az=3)))) (GN (e:= !(decide (a.bB.az=3))) yk decide_not.symm) (Mz rfl ?_)))))))
 by_cases s:a.bB.az=3
 refine Sk rfl rfl (dF (Ko s)) rfl (Sk rfl rfl (dF (Ko s)) rfl (Sk rfl rfl (dF (Ko s)) rfl (Sk rfl rfl (dF (Ko s)) rfl (fw (.bool false) (Gm rfl (dF (Ko s)) rfl) (nt (jf (sk (sr (Mz rfl (Kz (vP B 0) (La (bV.cells a.bB) ag 0 Tryz.isAgg47 Tryz.sizeOf47 ?_)))))))))))
 have cz:=ag.pb [5,3,11,12,0,1,4,13]
 have kR:=zr 12 cz
 have kS:=zr 13 cz
 obtain⟨⟨t,eB,G,cB⟩,aS⟩:∃ q:dH × Int × ax × aZ,dU (ax.mk (bA.mk b.bC (E0 (F1.wrap ((b.aT:Int)+1))) b.bv b.aL b.aG (D4 b.ah.ls) (D4 h) (D4 g) r b.aM b.aH b.aF) (D4 j)) (dM.mk a.bB.az a.bB.iO a.bB.jD a.bB.gJ a.bB.fG a.bB.iB a.bB.gp a.bB.aT a.bB.aV a.bB.bi a.bB.bv a.bB.aL a.bB.aG a.bB.bu a.bB.xN a.bB.fZ a.bB.aB (D4 a.bB.aJ.ls) (D4 (r8 aP.abs a.bB.aQ.ls)) (D4 a.bB.ah.ls)) (StoreT.mk (D4 f)) (aZ.mk (D4 l))=q:=⟨_,rfl⟩
 obtain⟨mG,gu,aT,gy,cK⟩:=Ie cz
 refine cl Tryz.call9 (jb _ _ U (ax.mk (bA.mk b.bC (E0 (F1.wrap ((b.aT:Int)+1))) b.bv b.aL b.aG (D4 b.ah.ls) (D4 h) (D4 g) r b.aM b.aH b.aF) (D4 j)) bT aV av az Z aB aC aD aF aa (dM.mk a.bB.az a.bB.iO a.bB.jD a.bB.gJ a.bB.fG a.bB.iB a.bB.gp a.bB.aT a.bB.aV a.bB.bi a.bB.bv a.bB.aL a.bB.aG a.bB.bu a.bB.xN a.bB.fZ a.bB.aB (D4 a.bB.aJ.ls) (D4 (r8 aP.abs a.bB.aQ.ls)) (D4 a.bB.ah.ls)) a.bB.aJ.A a.bB.aJ.ls.length a.bB.aJ.c a.bB.aQ.A a.bB.aQ.ls.length a.bB.aQ.c a.bB.aQ.ls a.bB.ah.A a.bB.ah.ls.length a.bB.ah.c J (StoreT.mk (D4 f)) X N bU (aZ.mk (D4 l)) aG aH af t eB G cB gu (cK _ 2 _ rfl bQ) e8 aN aO rfl (aT _ (T _ (C1 p)).1) e8 (rfl:r8 aP.abs a.bB.aQ.ls=r8 aP.abs a.bB.aQ.ls) g6 (λ w9 h9=>BP (aW (rfl:r8 aP.abs a.bB.aQ.ls=r8 aP.abs a.bB.aQ.ls)) ((aT _ (T _ (C1 p)).2.2.1) w9 h9)) e8 (λ x9 h9=>⟨aT _ ((T _ (C1 p)).2.2.2.2.1 x9 h9).1,((T _ (C1 p)).2.2.2.2.1 x9 h9).2⟩) rfl (aT _ (T _ (C1 p)).2.2.2.2.2.1) e8 (cK _ 3 _ rfl bQ) e8 aQ (by first | assumption | exact Rs.tk f6 | (dsimp only; exact(ed f6).tk)) (by first | assumption | exact Rs.gt f6 | (dsimp only; exact(ed f6).gt)) (by first | omega | exact Tk.n f6 | exact(Rs.tk f6).n | (dsimp only; exact(ed f6).tk.n)) (by first | omega | exact Tk.rows f6 | exact(Rs.tk f6).rows | (dsimp only; exact(ed f6).tk.rows)) f0 f0 f0 aS) ?_
 rintro _ mH ⟨eD,eF,bD,bE,mI,iT,iU,iW,iX,iY,iZ,ja,jc,jd,je,jg,rfl,gz,gB,cO,df,dh⟩
 have ah:=gy _ _ gz
 have kV:=aW gB
 have kW:=aW cO
 have kX:=aW df
 have kY:=aW dh
 have lc:=zr 0 ah
 have lg:=zr 2 ah
 have lh:=zr 4 ah
 have ll:=zr 6 ah
 have lm:=zr 7 ah
 have lq:=zr 11 ah
 obtain⟨di,dm⟩:=nS (m:=(ax.mk (bA.mk b.bC (E0 (F1.wrap ((b.aT:Int)+1))) b.bv b.aL b.aG (D4 b.ah.ls) (D4 h) (D4 g) r b.aM b.aH b.aF) (D4 j))) (tb:=(aZ.mk (D4 l))) g8 f9 aS
 replace di:Rs G.ag.ls G.aa.ak.ls G.aa.af.ls cB.ai.ls:=di
 replace dm:G.aa.ah.ls.length=b.ah.ls.length/\G.aa.af.ls.length<=g.length+1/\t.aI.ls.length<=24/\G.ag.ls.length+G.aa.ak.ls.length<=6:=dm
 refine Mz rfl (Kz (.agg #[.slice eD t.bE.ls.length eF, .slice bD t.aI.ls.length bE, .bool t.bU]) (Kz (vI eB) ?_))
 refine bW [.slice none 0 0, .slice none 0 0, .bool false] 52 ah ?_
 intro eG mJ jh
 refine bY [.slice eD t.bE.ls.length eF, .slice bD t.aI.ls.length bE, .bool t.bU] 0 jh Tryz.sizeOf52 ?_
 intro mK ji
 refine An rfl (Gp ?_)
 refine l5 18 [14] (GD (bH.block (GD (GD (bH.block (GD GQ)))))) ji ?_
 intro mM jk
 refine qv 0 rfl rfl (qv 1 rfl rfl (qp J 0 2 rfl (qp J 0 3 rfl (ql 4 rfl 10 Tryz.isAgg25 rfl rfl rfl (qp eG 1 5 rfl (ql 6 rfl 0 C6 rfl rfl rfl ?_))))))
 obtain⟨⟨bi,dn,eH⟩,bu⟩:∃ q:(List aA) × (List cZ) × Int,rH f t.aI.ls=q:=⟨_,rfl⟩
 obtain⟨mO,gD,lu,gF,dw⟩:=Gr jk
 refine qd 7 rfl (GV Tryz.call10 rfl (wz _ _ X f.length N f bD t.aI.ls.length bE t.aI.ls bi dn eH gD (dw _ 17 _ rfl bQ) rfl e8 (dw _ 3 _ rfl bQ) rfl e8 i0 bu) ?_)
 rintro _ mP ⟨dx,dz,jl,jm,mQ,rfl,gG,gH,dA,dB⟩
 have dC:=gF _ _ gG
 have lw:=aW gH
 have lC:=zr 0 dC
 have lD:=zr 1 dC
 replace dA:bi.length<=f.length+t.aI.ls.length:=dA
 replace dB:dn.length<=t.aI.ls.length:=dB
 have eO:=dC.pb [0,1,2]
 refine⟨.inr ⟨_,eO⟩, ?_⟩
 refine qv 8 rfl rfl (qk (.slice dx bi.length dz) 9 rfl (Hf (v:= .slice jl dn.length jm) 10 rfl e9 (λ _=>yk) (Hf (v:=vI eH) 11 rfl e9 (λ _=>yk) (qp J 0 12 rfl (qp J 0 13 rfl ?_)))))
 have jo:=eO.pf [10]
 refine qe 14 rfl (Do.store (vs:= [.slice dx bi.length dz]) (o:=0) jo rfl rfl Tryz.sizeOf25 rfl rfl rfl rfl ?_)
 intro mR jq
 refine⟨.inl e9, ?_⟩
 refine qn (Gs (Gp (Gp ?_)))
 have dE:=jq.px [] [19,20] []
 refine Gq (Kz (vP eG 1) (Lz (.slice bD t.aI.ls.length bE) dE 1 C6 (Kz (vJ t.aI.ls.length) (Kz (.bool (decide ((t.aI.ls.length:Int)=0))) (nt ?_)))))
 by_cases bF:(t.aI.ls.length:Int)=0
 refine jT (dT bF) (v9 (GK (GR (Gs ?_))))
 have jr:=dE.px [] [1,2,3,4,14] []
 refine Gq (fw (vJ (d+1)) (Gw (e:=v7.wrap ((d:Int)+1)) yk f1) (Mz rfl (v8 ?_)))
 have jv:=jr.px [10,1,7,11] [12] []
 exact GL (d+1,iT,iU,iW,G.aa.ak.ls,iX,iY,G.aa.af.ls,G.aa.bi,iZ,ja,jc,G.ag.ls,jd,je,jg,cB.ai.ls,dx,dz,bi,z) ⟨rfl,rfl,rfl,rfl,rfl,rfl,rfl,rfl,trivial⟩ (V.2 ⟨jv,by exact cO,by exact df,by exact dh,e8,e8,by first | assumption | exact ed f6,by first | omega | (dsimp only; omega) | (simp only [H2]; omega),Eq.trans (L) (Eq.trans (congrArg (λ q=>fA F b q h g r j l f z) O) (Eq.trans (if_pos s) (Eq.trans (ae aS) (Eq.trans (ae bu) (if_pos bF)))))⟩) (by show K.length - (d+1) < K.length - d; omega)
 refine jF (dF bF) (sk (Gp (Gp ?_)))
 have eQ:=dE.px [] [1,2,3,4] []
 refine Gq (Kz (vP B 0) (Kz (vP B 0) (Lz (vI a.bB.az) eQ 10 v5 (fw (.bool (decide (¬ (a.bB.az=5)))) (GN (e:= !(decide (a.bB.az=5))) yk decide_not.symm) (Mz rfl ?_)))))
 have ai:(decide (¬ (a.bB.az=5)))=true:=(dT e8)
 refine Sz ai (Sz ai (Sz ai (Sz ai (fw (.bool true) (Gu rfl ai rfl) (Mz rfl (Sz rfl (Sz rfl (Sz rfl (Sz rfl (Sz rfl (fw (.bool true) (Gu rfl rfl rfl) (nt (jt (sr (An rfl (rt (tR (bR (tR (tR (bR (tR (rs ?_)))))))))))))))))))))))
 have jw:=eQ.pk []
 obtain rfl:_=false:=zj hr (et (ae P) (et (ae Q) (et (ip R) (et (ae M) (et (iN aX) (iG (et (L) (et (congrArg (λ q=>fA F b q h g r j l f z) O) (et (ip s) (et (ae aS) (et (ae bu) (iN bF))))))))))))
 exact⟨rfl,jw⟩
 refine Gz (vP B 0) (dT s) (Gz (vP B 0) (dT s) (Gl (vI a.bB.az) (dT s) ag 0 v5 (gw (.bool (decide (¬ (a.bB.az=5)))) (dT s) (GN (e:= !(decide (a.bB.az=5))) yk decide_not.symm) (fw (.bool (decide (¬ (a.bB.az=5)))) (Gu rfl (dT s) rfl) (nt ?_)))))
 by_cases I:a.bB.az=5
 refine jF (dF (Ko I)) (sk (sr (Mz rfl (Kz (vP B 0) (La (bV.cells a.bB) ag 0 Tryz.isAgg47 Tryz.sizeOf47 ?_)))))
 have dJ:=ag.pb [5,3,11,12,0,1,4,13]
 have lF:=zr 12 dJ
 have lG:=zr 13 dJ
 obtain⟨⟨u,eT,C,bI⟩,W⟩:∃ q:dH × Int × ax × aZ,dU (ax.mk (bA.mk b.bC (E0 (F1.wrap ((b.aT:Int)+1))) b.bv b.aL b.aG (D4 b.ah.ls) (D4 h) (D4 g) r b.aM b.aH b.aF) (D4 j)) (dM.mk a.bB.az a.bB.iO a.bB.jD a.bB.gJ a.bB.fG a.bB.iB a.bB.gp a.bB.aT a.bB.aV a.bB.bi a.bB.bv a.bB.aL a.bB.aG a.bB.bu a.bB.xN a.bB.fZ a.bB.aB (D4 a.bB.aJ.ls) (D4 (r8 aP.abs a.bB.aQ.ls)) (D4 a.bB.ah.ls)) (StoreT.mk (D4 f)) (aZ.mk (D4 l))=q:=⟨_,rfl⟩
 obtain⟨mU,gI,aU,gJ,dK⟩:=Ie dJ
 refine cl Tryz.call9 (jb _ _ U (ax.mk (bA.mk b.bC (E0 (F1.wrap ((b.aT:Int)+1))) b.bv b.aL b.aG (D4 b.ah.ls) (D4 h) (D4 g) r b.aM b.aH b.aF) (D4 j)) bT aV av az Z aB aC aD aF aa (dM.mk a.bB.az a.bB.iO a.bB.jD a.bB.gJ a.bB.fG a.bB.iB a.bB.gp a.bB.aT a.bB.aV a.bB.bi a.bB.bv a.bB.aL a.bB.aG a.bB.bu a.bB.xN a.bB.fZ a.bB.aB (D4 a.bB.aJ.ls) (D4 (r8 aP.abs a.bB.aQ.ls)) (D4 a.bB.ah.ls)) a.bB.aJ.A a.bB.aJ.ls.length a.bB.aJ.c a.bB.aQ.A a.bB.aQ.ls.length a.bB.aQ.c a.bB.aQ.ls a.bB.ah.A a.bB.ah.ls.length a.bB.ah.c J (StoreT.mk (D4 f)) X N bU (aZ.mk (D4 l)) aG aH af u eT C bI gI (dK _ 2 _ rfl bQ) e8 aN aO rfl (aU _ (T _ (C1 p)).1) e8 (rfl:r8 aP.abs a.bB.aQ.ls=r8 aP.abs a.bB.aQ.ls) g6 (λ w9 h9=>BP (aW (rfl:r8 aP.abs a.bB.aQ.ls=r8 aP.abs a.bB.aQ.ls)) ((aU _ (T _ (C1 p)).2.2.1) w9 h9)) e8 (λ x9 h9=>⟨aU _ ((T _ (C1 p)).2.2.2.2.1 x9 h9).1,((T _ (C1 p)).2.2.2.2.1 x9 h9).2⟩) rfl (aU _ (T _ (C1 p)).2.2.2.2.2.1) e8 (dK _ 3 _ rfl bQ) e8 aQ (by first | assumption | exact Rs.tk f6 | (dsimp only; exact(ed f6).tk)) (by first | assumption | exact Rs.gt f6 | (dsimp only; exact(ed f6).gt)) (by first | omega | exact Tk.n f6 | exact(Rs.tk f6).n | (dsimp only; exact(ed f6).tk.n)) (by first | omega | exact Tk.rows f6 | exact(Rs.tk f6).rows | (dsimp only; exact(ed f6).tk.rows)) f0 f0 f0 W) ?_
 rintro _ mV ⟨eU,eX,bJ,bK,mW,eY,eZ,fe,fo,fq,fu,fB,fC,fD,fE,fF,rfl,gK,gL,bv,bz,bB⟩
 have ak:=gJ _ _ gK
 have lH:=aW gL
 have lI:=aW bv
 have lJ:=aW bz
 have lK:=aW bB
 have lL:=zr 0 ak
 have lM:=zr 2 ak
 have lN:=zr 4 ak
 have lS:=zr 6 ak
 have lT:=zr 7 ak
 have lU:=zr 11 ak
 obtain⟨dL,dN⟩:=nS (m:=(ax.mk (bA.mk b.bC (E0 (F1.wrap ((b.aT:Int)+1))) b.bv b.aL b.aG (D4 b.ah.ls) (D4 h) (D4 g) r b.aM b.aH b.aF) (D4 j))) (tb:=(aZ.mk (D4 l))) g8 f9 W
 replace dL:Rs C.ag.ls C.aa.ak.ls C.aa.af.ls bI.ai.ls:=dL
 replace dN:C.aa.ah.ls.length=b.ah.ls.length/\C.aa.af.ls.length<=g.length+1/\u.aI.ls.length<=24/\C.ag.ls.length+C.aa.ak.ls.length<=6:=dN
 refine Mz rfl (Kz (.agg #[.slice eU u.bE.ls.length eX, .slice bJ u.aI.ls.length bK, .bool u.bU]) (Kz (vI eT) ?_))
 refine bW [.slice none 0 0, .slice none 0 0, .bool false] 52 ak ?_
 intro fG mX jy
 refine bY [.slice eU u.bE.ls.length eX, .slice bJ u.aI.ls.length bK, .bool u.bU] 0 jy Tryz.sizeOf52 ?_
 intro mY jA
 refine An rfl (Gp ?_)
 refine l5 18 [14] (GD (bH.block (GD (GD (bH.block (GD GQ)))))) jA ?_
 intro mZ jB
 refine qv 0 rfl rfl (qv 1 rfl rfl (qp J 0 2 rfl (qp J 0 3 rfl (ql 4 rfl 10 Tryz.isAgg25 rfl rfl rfl (qp fG 1 5 rfl (ql 6 rfl 0 C6 rfl rfl rfl ?_))))))
 obtain⟨⟨aI,dO,fH⟩,au⟩:∃ q:(List aA) × (List cZ) × Int,rH f u.aI.ls=q:=⟨_,rfl⟩
 obtain⟨ng,gM,lV,gN,dP⟩:=Gr jB
 refine qd 7 rfl (GV Tryz.call10 rfl (wz _ _ X f.length N f bJ u.aI.ls.length bK u.aI.ls aI dO fH gM (dP _ 17 _ rfl bQ) rfl e8 (dP _ 3 _ rfl bQ) rfl e8 i0 au) ?_)
 rintro _ ni ⟨bO,bP,jC,jD,nk,rfl,gP,gQ,dQ,dR⟩
 have dS:=gN _ _ gP
 have lW:=aW gQ
 have lX:=zr 0 dS
 have lY:=zr 1 dS
 replace dQ:aI.length<=f.length+u.aI.ls.length:=dQ
 replace dR:dO.length<=u.aI.ls.length:=dR
 have fI:=dS.pb [0,1,2]
 refine⟨.inr ⟨_,fI⟩, ?_⟩
 refine qv 8 rfl rfl (qk (.slice bO aI.length bP) 9 rfl (Hf (v:= .slice jC dO.length jD) 10 rfl e9 (λ _=>yk) (Hf (v:=vI fH) 11 rfl e9 (λ _=>yk) (qp J 0 12 rfl (qp J 0 13 rfl ?_)))))
 have jG:=fI.pf [10]
 refine qe 14 rfl (Do.store (vs:= [.slice bO aI.length bP]) (o:=0) jG rfl rfl Tryz.sizeOf25 rfl rfl rfl rfl ?_)
 intro nu jH
 refine⟨.inl e9, ?_⟩
 refine qn (Gs (Gp (Gp ?_)))
 have dV:=jH.px [] [19,20] []
 refine Gq (Kz (vP fG 1) (Lz (.slice bJ u.aI.ls.length bK) dV 1 C6 (Kz (vJ u.aI.ls.length) (Kz (.bool (decide ((u.aI.ls.length:Int)=0))) (nt ?_)))))
 by_cases aJ:(u.aI.ls.length:Int)=0
 refine jT (dT aJ) (v9 (GK (GR (Gs ?_))))
 have jI:=dV.px [] [1,2,3,4,14] []
 refine Gq (fw (vJ (d+1)) (Gw (e:=v7.wrap ((d:Int)+1)) yk f1) (Mz rfl (v8 ?_)))
 have jJ:=jI.px [10,1,7,11] [12] []
 exact GL (d+1,eY,eZ,fe,C.aa.ak.ls,fo,fq,C.aa.af.ls,C.aa.bi,fu,fB,fC,C.ag.ls,fD,fE,fF,bI.ai.ls,bO,bP,aI,z) ⟨rfl,rfl,rfl,rfl,rfl,rfl,rfl,rfl,trivial⟩ (V.2 ⟨jJ,by exact bv,by exact bz,by exact bB,e8,e8,by first | assumption | exact ed f6,by first | omega | (dsimp only; omega) | (simp only [H2]; omega),Eq.trans (L) (Eq.trans (congrArg (λ q=>fA F b q h g r j l f z) O) (Eq.trans (if_neg s) (Eq.trans (if_pos I) (Eq.trans (ae W) (Eq.trans (ae au) (if_pos aJ))))))⟩) (by show K.length - (d+1) < K.length - d; omega)
 refine jF (dF aJ) (sk (Gp (Gp ?_)))
 have Y:=dV.px [] [1,2,3,4] []
 refine Gq (Kz (vP B 0) (Kz (vP B 0) (Lz (vI a.bB.az) Y 10 v5 (fw (.bool (decide (¬ (a.bB.az=5)))) (GN (e:= !(decide (a.bB.az=5))) yk decide_not.symm) (Mz rfl (gw (vP B 0) (dF (Ko I)) yk (gw (vP B 15) (dF (Ko I)) yk (gw (.bool a.bB.fZ) (dF (Ko I)) (GH rfl (bS.one Tryz.isAgg4 (Ho (Y.cls (i:=10) rfl) rfl))) (gw (.bool (!a.bB.fZ)) (dF (Ko I)) yk (fw (.bool (!a.bB.fZ)) (Gm rfl (dF (Ko I)) rfl) (Mz rfl ?_)))))))))))
 rcases Kq (a.bB.fZ) with E | E
 refine gw (.map (some d9)) (cn E) (Gv rfl) (Gz (vP B 0) (cn E) (Gz (vP B 8) (cn E) (Gl (vU a.bB.aV) (cn E) Y 10 C4 ?_)))
 obtain⟨dW,bC⟩:∃ q,nT z a.bB.aV=q:=⟨_,rfl⟩
 refine gw (.bool (Option.getD dW false)) (cn E) (Jz (k:=a.bB.aV) (d0:=false) (i:=11) Y rfl (Dw D2) T1 (λ _=>by kernel_rfl) rfl rfl bC) (fw (.bool (Option.getD dW false)) (Gm rfl (cn E) rfl) (nt ?_))
 rcases Kq (Option.getD dW false) with bn | bn
 refine jT bn (sr (An rfl (rt (tR (bR (tR (tR (bR (tR (rs ?_))))))))))
 have jK:=Y.pk []
 obtain rfl:_=false:=zj hr (et (ae P) (et (ae Q) (et (ip R) (et (ae M) (et (iN aX) (iG (et (L) (et (congrArg (λ q=>fA F b q h g r j l f z) O) (et (iN s) (et (ip I) (et (ae W) (et (ae au) (et (iN aJ) (et (ip E) (et (ae bC) (ip bn))))))))))))))))
 exact⟨rfl,jK⟩
 refine jF bn (sk (Gq (Mz rfl (Kz (vP B 0) (Kz (vP B 8) (Lz (vU a.bB.aV) Y 10 C4 ?_))))))
 have jL:=Y.pf [11]
 refine Hz (IW (k:=a.bB.aV) (v:=true) jL (Dw D2) T1 rfl rfl rfl ?_)
 intro ny jM
 refine v8 (bN (Gs ?_))
 have jN:=jM.px [] [11] []
 refine Gq (fw (vJ (d+1)) (Gw (e:=v7.wrap ((d:Int)+1)) yk f1) (Mz rfl (v8 ?_)))
 have jO:=jN.px [0,2,8,11] [12] []
 exact GL (d+1,eY,eZ,fe,C.aa.ak.ls,fo,fq,C.aa.af.ls,C.aa.bi,fu,fB,fC,C.ag.ls,fD,fE,fF,bI.ai.ls,bO,bP,aI,(fV z a.bB.aV true)) ⟨rfl,rfl,rfl,rfl,rfl,rfl,rfl,rfl,trivial⟩ (V.2 ⟨jO,by exact bv,by exact bz,by exact bB,e8,e8,by first | assumption | exact ed f6,by first | omega | (dsimp only; omega) | (simp only [H2]; omega),Eq.trans (L) (Eq.trans (congrArg (λ q=>fA F b q h g r j l f z) O) (Eq.trans (if_neg s) (Eq.trans (if_pos I) (Eq.trans (ae W) (Eq.trans (ae au) (Eq.trans (if_neg aJ) (Eq.trans (if_pos E) (Eq.trans (ae bC) (dY bn)))))))))⟩) (by show K.length - (d+1) < K.length - d; omega)
 refine Sz (cn E) (Sz (cn E) (Sz (cn E) (Sz (cn E) (Sz (cn E) (fw (.bool true) (Gu rfl (cn E) rfl) (nt (jt (sr (An rfl (rt (tR (bR (tR (tR (bR (tR (rs ?_)))))))))))))))))
 have jP:=Y.pk []
 obtain rfl:_=false:=zj hr (et (ae P) (et (ae Q) (et (ip R) (et (ae M) (et (iN aX) (iG (et (L) (et (congrArg (λ q=>fA F b q h g r j l f z) O) (et (iN s) (et (ip I) (et (ae W) (et (ae au) (et (iN aJ) (dY E))))))))))))))
 exact⟨rfl,jP⟩
 refine jT (dT I) (v9 (GK (GR (Gs ?_))))
 have jQ:=ag.px [] [0] []
 refine Gq (fw (vJ (d+1)) (Gw (e:=v7.wrap ((d:Int)+1)) yk f1) (Mz rfl (v8 ?_)))
 have jR:=jQ.pf []
 exact GL (d+1,av,az,Z,h,aB,aC,g,r,aD,aF,aa,j,aG,aH,af,l,X,N,f,z) ⟨rfl,rfl,rfl,rfl,rfl,rfl,rfl,rfl,trivial⟩ (V.2 ⟨jR,by exact aN,by exact aO,by exact aQ,e8,e8,by first | assumption | exact ed f6,by first | omega | (dsimp only; omega) | (simp only [H2]; omega),Eq.trans (L) (Eq.trans (congrArg (λ q=>fA F b q h g r j l f z) O) (Eq.trans (if_neg s) (if_neg I)))⟩) (by show K.length - (d+1) < K.length - d; omega)
 refine jF (dF eu) (v9 (GK ?_))
 have gT:fA F b K b.ak.ls b.af.ls b.bi [] [] [] []=Sum.inl ():=et (L) (et (congrArg (λ q=>fA F b q h g r j l f z) (eP (ls:=K) (i:=d) e8)) rfl)
 refine GK (GR (Gs (Gp ?_)))
 have jS:=bf.pk []
 refine Gq (Mz rfl (An rfl (rt (rs ?_))))
 have jU:=jS.pk []
 obtain rfl:_=F:=zj hr (et (ae P) (et (ae Q) (et (ip R) (et (ae M) (et (iN aX) (kZ gT))))))
 exact⟨rfl,jU⟩
 refine Sz (dT R) (Sz (dT R) (fw (.bool true) (Gu rfl (dT R) rfl) (nt (jt (sr (Az rfl (An rfl (rt (tR (GM (j6 rfl rfl rfl) (Mz rfl (Kz (.pointer none) (Kz (vI 1) (Az rfl (An rfl (Gp (Gp ?_)))))))))))))))))
 have fJ:=fQ.pk [2]
 refine Gq (Mz rfl (Kz (.bool true) (Mz rfl (Sz rfl (Sz rfl (fw (.bool true) (Gu rfl rfl rfl) (Mz rfl (Sz rfl (Sz rfl (Sz rfl (fw (.bool true) (Gu rfl rfl rfl) (nt (jt (sr (Mz rfl (Mz rfl ?_))))))))))))))))
 rcases Kq (F) with S | S
 refine Hm (v:= .pointer none) rfl rfl S rfl (Gv rfl) (Gz (.bool false) S (fw (.bool false) (Gu rfl S rfl) (An rfl (rt (tR (rs ?_))))))
 have jV:=fJ.pk []
 obtain rfl:=zj hr zq4
 exact⟨rfl,jV⟩
 refine Sz S (Sz S (fw (.bool false) (Gm rfl S rfl) (An rfl (rt (tR (rs ?_))))))
 have jW:=fJ.pk []
 obtain rfl:=zj hr zq4
 exact⟨rfl,jW⟩
end
theorem Dx:uY=true:=by decide+kernel
theorem BK {m m':ax} {x:dM} {s:StoreT} {tb tb':aZ} {d:dH} {e:Int} (h:dU m x s tb=(d,e,m',tb')) (hR:Rs m.ag.ls m.aa.ak.ls m.aa.af.ls tb.ai.ls) (hf:List.length m.aa.af.ls<=999):
    Kp m m' tb'/\List.length d.aI.ls<=24/\(d.aI.ls≠ []->x.az=5/\x.fZ=true/\Tx m.ag.ls m.aa.ak.ls x.aV/\Dn m' x.aV):=zo hR hf h
theorem EJ {w:World} {l:List iV} (h:∀ x ∈ l,IQ w x):∀ x ∈ List.map iV.abs l,x.bB.aV<=18446744073709551615/\List.length x.bB.aJ.ls<=140737488351232/\List.length x.bB.aQ.ls<=140737488351232/\List.length x.bB.ah.ls<=140737488351232:=λ x hx=>by
  obtain⟨y,hy,rfl⟩:=List.mem_map.1 hx
  have k:=(h y hy).1
  have o:=k.2.2.2.2.2.2.2.2.2.2.2.2.2.2.2.2.2.1
  have r:=k.2.2.2.2.2.2.2.2.2.2.2.2.2.2.2.2.2.2.1
  have v:=k.2.2.2.2.2.2.2.2.2.2.2.2.2.2.2.2.2.2.2
  refine⟨k.2.2.2.2.2.2.2.2.1, ?_, ?_, ?_⟩
  . show List.length y.bB.aJ.ls<=_
    have a:=o.1; have b:=o.2.1; omega
  . show List.length (List.map aP.abs y.bB.aQ.ls)<=_
    rw [List.length_map]; have a:=r.1; have b:=r.2.1; omega
  . show List.length y.bB.ah.ls<=_
    have a:=v.1; have b:=v.2.1; omega
def Dd (hs:List dD) (fin:List Nat) (low:Nat) (ws:List bG) (n:Nat):Prop:=(n < low\/n ∈ fin)/\¬ Tx ws hs n
theorem rU (b:Bool) (r:bA):∀ (l:List StepT) (hs:List dD) (fin:List Nat) (low:Nat) (ws:List bG) (rs:List aK) (M:List aA) (B:List (Nat × Bool)),Rs ws hs fin rs->List.length fin+List.length l<=999->
    (∀ n,Option.getD (nT B n) false=true->Dd hs fin low ws n)->fA b r l hs fin low ws rs M B= .inl ()
  | [],hs,fin,low,ws,rs,M,B,hR,hf,hd=>rfl
  | x::q,hs,fin,low,ws,rs,M,B,hR,hf,hd=>by
    rw [List.length_cons] at hf
    unfold fA
    by_cases g:x.bB.az=3
    . rw [if_pos g]
      simp only [dz]
      generalize ht:dU _ _ _ _=v
      obtain⟨d,e,m',tb'⟩:=v
      obtain⟨k,i,f⟩:=BK ht hR (by show List.length fin<=999; omega)
      have kf:List.length m'.aa.af.ls<=List.length fin+1:=k.fl
      by_cases a:((List.length d.aI.ls:Nat):Int)=0
      . rw [if_pos a]
        exact rU b r q _ _ _ _ _ _ B k.rs j2 (λ n hn=>k.dn n (hd n hn))
      . have j:x.bB.az=5:=(f (λ e=>a (by rw [e]; rfl))).1
        omega
    rw [if_neg g]
    by_cases h:x.bB.az=5
    . rw [if_pos h]
      simp only [dz]
      generalize ht:dU _ _ _ _=v
      obtain⟨d,e,m',tb'⟩:=v
      obtain⟨k,i,f⟩:=BK ht hR (by show List.length fin<=999; omega)
      have kf:List.length m'.aa.af.ls<=List.length fin+1:=k.fl
      by_cases a:((List.length d.aI.ls:Nat):Int)=0
      . rw [if_pos a]
        exact rU b r q _ _ _ _ _ _ B k.rs j2 (λ n hn=>k.dn n (hd n hn))
      . rw [if_neg a]
        obtain⟨_,hfl,htx,hdn⟩:=f (λ e=>a (by rw [e]; rfl))
        have c:x.bB.fZ=true:=hfl
        rw [if_pos c]
        have hno: ¬ Option.getD (nT B x.bB.aV) false=true:=λ hc=>(hd _ hc).2 htx
        rw [if_neg hno]
        refine rU b r q _ _ _ _ _ _ _ k.rs j2 (λ n hn=> ?_)
        rw [zO] at hn
        by_cases cn:x.bB.aV=n
        . rw [<- cn]; exact hdn
        . rw [if_neg cn] at hn; exact k.dn n (hd n hn)
    . rw [if_neg h]
      exact rU b r q _ _ _ _ _ _ B hR e8 hd
theorem D9 {a:List StepT}:tT a=true:=by
  unfold tT
  refine(ae Dx).trans ?_
  refine(ae (show lv (bA.mk 1 0 0 1 0 (Ll.mk ([(bL.mk [] 1),(bL.mk ([109]) 2)])) (Ll.mk []) (Ll.mk []) 0 0 (aj.mk [] []) (iJ.mk 0 0 0 (aj.mk [] [])))=0 by decide+kernel)).trans ?_
  rw [if_pos rfl]
  refine(ae rfl).trans ?_
  by_cases h:(a.length:Int) > 80
  . rw [if_pos h,if_pos rfl]
  rw [if_neg h]
  exact kZ (rU true _ a _ _ _ _ _ _ _ (ed rfl) (by show 0+List.length a<=999; omega) (λ n hn=>by cases hn))
section
open Go.RowKit
theorem Cm (w) (f:Sv iV) (a:mZ w 22 240 iV.cells (IQ w) f):
    Calls Tryz.prog 3 #[.slice f.A f.ls.length f.c] w λ e w'=>e= .returned (.bool true)/\Below w.heap.size w w':=
 (yE w (λ _:Nat=>False) f.A f.ls.length f.c f.ls (List.map iV.abs f.ls) true (Ju w) rfl (bM.ro a.2.2.1 f5) (λ b d=>⟨bM.ro (a.2.2.2 b d).1.2.2.2.2.2.2.2.2.2.2.2.2.2.2.2.2.2.1.2.2.1 f5,(by have g:=(a.2.2.2 b d).1.2.2.2.2.2.2.2.2.2.2.2.2.2.2.2.2.2.1.1; have h:=(a.2.2.2 b d).1.2.2.2.2.2.2.2.2.2.2.2.2.2.2.2.2.2.1.2.1; omega),bM.ro (a.2.2.2 b d).1.2.2.2.2.2.2.2.2.2.2.2.2.2.2.2.2.2.2.1.2.2.1 f5,(by have g:=(a.2.2.2 b d).1.2.2.2.2.2.2.2.2.2.2.2.2.2.2.2.2.2.2.1.1; have h:=(a.2.2.2 b d).1.2.2.2.2.2.2.2.2.2.2.2.2.2.2.2.2.2.2.1.2.1; omega),(λ i j=>⟨bM.ro ((a.2.2.2 b d).1.2.2.2.2.2.2.2.2.2.2.2.2.2.2.2.2.2.2.1.2.2.2 i j).2.2.2.2.1 f5,(by have g:=((a.2.2.2 b d).1.2.2.2.2.2.2.2.2.2.2.2.2.2.2.2.2.2.2.1.2.2.2 i j).2.2.1; have h:=((a.2.2.2 b d).1.2.2.2.2.2.2.2.2.2.2.2.2.2.2.2.2.2.2.1.2.2.2 i j).2.2.2.1; omega)⟩),bM.ro (a.2.2.2 b d).1.2.2.2.2.2.2.2.2.2.2.2.2.2.2.2.2.2.2.2.2.2.1 f5,(by have g:=(a.2.2.2 b d).1.2.2.2.2.2.2.2.2.2.2.2.2.2.2.2.2.2.2.2.1; have h:=(a.2.2.2 b d).1.2.2.2.2.2.2.2.2.2.2.2.2.2.2.2.2.2.2.2.2.1; omega)⟩) (r5 ..).symm (by rw [r5]; have:=a.1; have:=a.2.1; omega) (by rw [r5]; have:=a.1; have:=a.2.1; omega) (EJ a.2.2.2) (D9)).mono λ e w' ⟨v,he,hv,H⟩=>⟨by rw [he,hv],H.below⟩
end
end Go.Proofs.YtndamapfnpihpaaGreat
