/- The layers told, part 5. Conditions: none beyond each law's own. -/
import Derived.Test.YtndamapfnpihpaaGreatJd
namespace Go.Proofs.YtndamapfnpihpaaGreat
set_option maxHeartbeats 4000000
set_option maxRecDepth 100000
set_option linter.unusedVariables false
set_option linter.unusedSimpArgs false
set_option linter.unusedSectionVars false
open _root_.Go renaming World->ZQ,Value->ZX
open Value renaming bool->V,slice->W,string->Zz,pointer->Zq,agg->Zx,nilFunc->Zj
open Bool renaming true->Zk,false->J
open Option renaming none->Zv,some->Zw
open Decidable renaming decide->Zy
open Inhabited renaming default->ZZ
open List renaming length->X,toArray->Zc
open Int renaming toNat->U
open List renaming drop->r6,flatMap->q0,length_append->o2,length_cons->q5,length_drop->o1,length_nil->L3,length_replicate->O7,length_set->N1,length_take->o0,map->r7,mem_flatMap->P8,mem_of_getElem?->E1,set->N0,take->t8
open Ll renaming q->O
open _root_.Go.Proofs.Tryz renaming isAgg28->S3,isAgg3->B5,isAgg32->E3,sizeOf60->E2
section
open Go.RowKit
def fZ (h:bK) (n:Nat) (c:aA) (i:StoreT) (k:Int):Nat->List dC->List aN->List bA->((List dC) × (List aN) × (List bA) × bA) ⊕ (Int × bK × aA × aZ)
  | 0,j,l,f=>Sum.inl ZZ
  | o+1,j,l,f=>bnd (List.getD f (U k) ZZ) λ b=>if b.b < ((X b.e.a:Nat):Int) then bnd (List.getD b.e.a (U b.b) ZZ) λ m=>bnd (iP (aZ.q (O l)) n m) λ a=>if a.2.2.2.1=0 then bnd (lL (bK.q h.a (O j)) a.2.1 a.2.2.1) λ d=>if a.1=2 then Sum.inr (0,bK.q h.a (O d.b.a),aA.q c.a (O f),a.2.2.2.2) else if a.1=3 then bnd (iE (bK.q h.a (O d.b.a)) n (aA.q c.a (O f))) λ e=>bnd (eO (bK.q (dL.q (O e.1.a.a.a) (O h.a.b.a) h.a.e) (O d.b.a)) n (aA.q c.a (O e.2.b.a)) a.2.2.2.2) λ g=>Sum.inr (0,bK.q (dL.q (O e.1.a.a.a) (O h.a.b.a) h.a.e) (O g.1.b.a),aA.q c.a (O e.2.b.a),g.2) else fZ h n c i k o d.b.a a.2.2.2.2.a.a (N0 f (U k) (bA.q b.a (O b.f.a) (O b.e.a) (b.b+1))) else Sum.inr (a.2.2.2.1,bK.q h.a (O j),aA.q c.a (O f),a.2.2.2.2) else Sum.inl (j,l,f,b)
def fo (g:bK) (h:Nat) (a:aA) (d:StoreT) (e:aZ):Int × bK × aA × aZ:=
 bnd (bX a h) λ b=>if b.2=Zk then lp (fZ g h a d b.1 ((gm a.b.a (U b.1))+1) g.b.a e.a.a a.b.a) λ sLrbtbL=>bnd (dX (aA.q a.a (O (t8 (U b.1) sLrbtbL.2.2.1++r6 ((U b.1)+1) sLrbtbL.2.2.1))) sLrbtbL.2.2.2.a) λ c=>bnd (fV (bK.q g.a (O sLrbtbL.1)) (df.q sLrbtbL.2.2.2.a (O sLrbtbL.2.2.2.f.a)) (aA.q (bD.q a.a.l a.a.r a.a.t a.a.s a.a.g (O a.a.b.a) (O (t8 (U c.1) a.a.a.a++((df.q sLrbtbL.2.2.2.a (O sLrbtbL.2.2.2.f.a))::r6 (U c.1) a.a.a.a))) (O a.a.f.a) a.a.k a.a.u a.a.j a.a.e) (O (t8 (U b.1) sLrbtbL.2.2.1++r6 ((U b.1)+1) sLrbtbL.2.2.1))) d) λ f=>(f.1,bK.q (dL.q (O f.2.a.a.a) (O g.a.b.a) g.a.e) (O sLrbtbL.1),aA.q (bD.q a.a.l a.a.r a.a.t a.a.s a.a.g (O a.a.b.a) (O (t8 (U c.1) a.a.a.a++((df.q sLrbtbL.2.2.2.a (O sLrbtbL.2.2.2.f.a))::r6 (U c.1) a.a.a.a))) (O a.a.f.a) a.a.k a.a.u a.a.j a.a.e) (O (t8 (U b.1) sLrbtbL.2.2.1++r6 ((U b.1)+1) sLrbtbL.2.2.1)),aZ.q (O sLrbtbL.2.1)) else(0,g,a,e)
theorem qL (w D g0) (M:bK) (Z6 P Q Z9 Z3 dw dx p1 u) (a:aA) (G I s h j Z7 K d l aa B) (C:StoreT) (F E x) (Z5:aZ) (ak au Z1 r0) (r1:bK) (r2:aA) (r3:aZ) (H:Own w D w [blk g0 [Zq (Zw ⟨u,0,Zv⟩), W Z6 (X M.a.a.a) P, W Z9 (X M.a.b.a) Z3, V M.a.e, W dw (X M.b.a) dx] 92,row Z6 (X M.a.a.a) P (q0 bU.J Q) 47 21,sepL (q0 Kg Q),jD dw (X M.b.a) dx (q0 dC.J M.b.a) 216 2,blk u (kB a G (X a.a.b.a) I s (X a.a.a.a) h Z7 (X a.a.f.a) K a.a.k B d (X a.b.a) l x) 80,row s (X a.a.a.a) h (q0 bf.J j) 60 2,sepL (q0 J9 j),row d (X a.b.a) l (q0 aW.J aa) 99 4,sepL (q0 J5 aa),blk B [W F (X C.a.a) E] 27,blk x [W ak (X Z5.a.a) au] 114,row ak (X Z5.a.a) au (q0 aB.J Z1) 164 6,sepL (q0 J4 Z1)]) (aH:r7 bU.abs Q=M.a.a.a) (iA:Ro w D λ w'=>bP w' 6 Z9 (X M.a.b.a) (q0 aY.J M.a.b.a)) (lc:X M.a.b.a<=Z3/\X M.a.b.a<=9223372036854775807) (R:r7 bf.abs j=a.a.a.a) (ai:r7 aW.abs aa=a.b.a) (bY:Ro w D λ w'=>bP w' 2 F (X C.a.a) (q0 ay.J C.a.a)) (iB:X C.a.a<=E/\X C.a.a<=9223372036854775807) (aC:r7 aB.abs Z1=Z5.a.a) (oF:Tk a.b.a a.a.a.a Z5.a.a) (oG:X a.b.a+X a.a.a.a<=6) (oH:X Z5.a.a<=6) (oI:X M.a.a.a<=90000/\X M.b.a<=90000/\X M.a.b.a<=1000/\X C.a.a<=4000) (hr:fo M p1 a C Z5=(r0,r1,r2,r3)):
    Calls Tryz.prog 83 #[vP g0 0,vU p1] w (dM λ v w'=> ∃ dQ dR bZ dS dU dV dW cz dY dZ cB d9 ed cK,v=vI r0/\Own w D w' [blk g0 [vP u 0, W dQ (X r1.a.a.a) dR, W Z9 (X M.a.b.a) Z3, V M.a.e, W dS (X r1.b.a) dU] 92,row dQ (X r1.a.a.a) dR (q0 bU.J bZ) 47 21,sepL (q0 Kg bZ),jD dS (X r1.b.a) dU (q0 dC.J r1.b.a) 216 2,blk u (kB a G (X a.a.b.a) I dV (X r2.a.a.a) dW Z7 (X a.a.f.a) K a.a.k B dY (X r2.b.a) dZ x) 80,row dV (X r2.a.a.a) dW (q0 bf.J cz) 60 2,sepL (q0 J9 cz),row dY (X r2.b.a) dZ (q0 aW.J cB) 99 4,sepL (q0 J5 cB),blk B [W F (X C.a.a) E] 27,blk x [W d9 (X r3.a.a) ed] 114,row d9 (X r3.a.a) ed (q0 aB.J cK) 164 6,sepL (q0 J4 cK)]/\(r7 bU.abs bZ=r1.a.a.a)/\(r7 bf.abs cz=r2.a.a.a)/\(r7 aW.abs cB=r2.b.a)/\(r7 aB.abs cK=r3.a.a)):=by
 have kZ:=bg aH
 have jq:=bg R
 have jr:=bg ai
 have gJ:=bg aC
 have lg:=zr 1 H
 have lh:=H.rowCQ (i:=3) Z
 have jw:=zr 5 H
 have jy:=zr 7 H
 refine cb Tryz.func83 ?_
 refine sr (Ar Z (Mz Z (Kz (vP g0 0) (Kz (vP g0 0) (Lz (vP u 0) H 0 S3 (Mz Z ?_))))))
 have gH:=H.pf [4]
 have mP:=zr 7 gH
 obtain⟨⟨g,cZ⟩,aK⟩:∃ q:Int × Bool,bX a p1=q:=⟨_,Z⟩
 obtain⟨oJ,jA,mQ,jB,ek⟩:=Kb gH
 refine cl Tryz.call79 (jv _ _ u a G I s h Z7 K d l aa B x p1 g cZ jA ai (ek _ 6 _ Z bQ) Y (λ x9 h9=>⟨ek _ 7 _ Z (bM (P8.2 ⟨x9,h9,b3⟩) bQ),dH (φ:=λ _=>_) gH (i:=8) Z (bM (P8.2 ⟨x9,h9,b3⟩) dP),ek _ 7 _ Z (bM (P8.2 ⟨x9,h9, .tail _ b3⟩) bQ),dH (φ:=λ _=>_) gH (i:=8) Z (bM (P8.2 ⟨x9,h9, .tail _ b3⟩) dP)⟩) f2 aK) ?_
 rintro _ oK ⟨rfl,jC,gK,gL⟩
 have bz:=jB _ _ jC
 replace gK:0<=g/\g<=(X a.b.a:Int):=gK
 replace gL:Bool.toNat cZ=0\/g < (X a.b.a:Int):=gL
 refine Mz Z (Kz (vI g) (Kz (V cZ) (Az Z (An Z (JG (sr (Mz Z (Kz (V (!cZ)) (nt ?_)))))))))
 rcases Nf (cZ) with aM | aM
 have h36t:Bool.toNat cZ=1:=by rw [aM]; rfl
 refine jF (cn aM) (sk (sr (Mz Z (Kz (vP g0 0) (Kz (vP g0 0) (Lz (vP u 0) bz 1 S3 (Kz (vP u 0) (Kz (vP u 18) (Lz (W d (X a.b.a) l) bz 0 Tryz.isAgg77 (fw (vJ (U g)) (JN (e:=g) (JM Z) Y) ?_))))))))))
 obtain⟨aI,eu⟩:=dJ (ls:=aa) (i:=U g) aW.len f6 (bz.rds (i:=7) Z) f4
 have eB:=gq ai eu
 have mR:X aI.f.a<=aI.f.c/\X aI.f.a<=9223372036854775807:=dH bz (i:=8) Z (φ:=λ _=>_) (bM (P8.2 ⟨aI,E1 eu,b3⟩) dP)
 have mU:X aI.e.a<=aI.e.c/\X aI.e.a<=9223372036854775807:=dH bz (i:=8) Z (φ:=λ _=>_) (bM (P8.2 ⟨aI,E1 eu, .tail _ b3⟩) dP)
 obtain⟨mV,mW,mY⟩:(0<=aI.b/\aI.b<=(X aI.e.a:Int))/\X aI.f.a<=24/\X aI.e.a<=24:=Tk.wat (ws:=a.b.a) f8 eB
 have mZ:X Z5.a.a<=6:=Tk.rows (ws:=a.b.a) (hs:=a.a.a.a) f8
 have ng:X a.b.a+X a.a.a.a<=6:=Tk.n (ws:=a.b.a) (rs:=Z5.a.a) f8
 refine fw (Zq (Zw ⟨ab d,ao d+(U g) *4,Zv⟩)) (JU (l5) Z Z ((bz.rds (i:=7) Z).addr (i:=U g) Y) Y) (An Z (JG (bo ?_)))
 have ll:=bz.pb [8,4,11,12]
 obtain⟨lm,eD⟩:=Jp λ aO (aP:Nat) Z2 dh (di:Nat) bB aG Z8 p (eF:Nat) w'=>Own w D w' [blk u (kB a G (X a.a.b.a) I s (X a.a.a.a) h Z7 (X a.a.f.a) K a.a.k B d (X a.b.a) l x) 80,blk g0 [vP u 0, W Z6 (X M.a.a.a) P, W Z9 (X M.a.b.a) Z3, V M.a.e, W aO (X Z2) aP] 92,row Z6 (X M.a.a.a) P (q0 bU.J Q) 47 21,sepL (q0 Kg Q),row s (X a.a.a.a) h (q0 bf.J j) 60 2,sepL (q0 J9 j),row d (X a.b.a) l (q0 aW.J Z8) 99 4,blk B [W F (X C.a.a) E] 27,blk x [W dh (X aG) di] 114,sepL (q0 J5 Z8),jD aO (X Z2) aP (q0 dC.J Z2) 216 2,row dh (X aG) di (q0 aB.J bB) 164 6,sepL (q0 J4 bB)]/\r7 aW.abs Z8=p/\X p=X a.b.a/\r7 aB.abs bB=aG/\Tk p a.a.a.a aG/\vZ p (U g) p1/\X Z2+24 *gm p (U g)<=91000/\gm p (U g) < eF/\fZ M p1 a C g ((gm a.b.a (U g))+1) M.b.a Z5.a.a a.b.a=fZ M p1 a C g eF Z2 aG p
 refine Wp.loop (λ i:(Option Addr) × Nat × (List dC) × (Option Addr) × Nat × (List aB) × (List aN) × (List aW) × (List bA) × Nat=> [(4,vI 0),(7, Zq (Zw ⟨ab d,ao d+(U g) *4,Zv⟩)),(0,vP g0 0),(1,vU p1)]) lm (λ i=>i.2.2.2.2.2.2.2.2.2) (dw,dx,M.b.a,ak,au,Z1,Z5.a.a,aa,a.b.a,(gm a.b.a (U g))+1) ⟨Z,Z,Z,Z,ZW⟩ (eD.2 ⟨ll,by exact ai,by first | omega | (simp only [N1] <;> omega) | (simp only [O7]),by exact aC,by first | assumption | (refine Tk.bump ?_ eB rfl rfl rfl ?_; assumption; (dsimp only; omega)),by first | assumption | exact vZ.set f8 eB rfl | exact nU (Tk.a f8) (aK.trans (congrArg (λ q=>(_,q)) aM)),by first | omega | (have q9:=GI (by assumption:Tk a.b.a _ _) (U g); omega),Y,Z⟩) ?_
 rintro ⟨aO,aP,Z2,dh,di,bB,aG,Z8,p,eF⟩ oM jH
 show Wp _ _ _ [(4,vI 0),(7, Zq (Zw ⟨ab d,ao d+(U g) *4,Zv⟩)),(0,vP g0 0),(1,vU p1)] _ _
 obtain⟨lq,aj,ni,eG,nk,nu,ny,nz,bC⟩:=eD.1 jH
 have nA:=bg aj
 have nC:=bg eG
 obtain⟨iC,jI⟩:∃ q,eF=q+1:=⟨eF - 1,Y⟩
 subst jI
 refine JG (JG ?_)
 refine mX 13 [] (JP (JP (JP (bI.block (JP J3))))) lq ?_
 intro oN iD
 refine qv 0 Z Z (qk (Zq (Zw ⟨ab d,ao d+(U g) *4,Zv⟩)) 1 Z (qk (Zq (Zw ⟨ab d,ao d+(U g) *4+3,Zv⟩)) 2 Z ?_))
 obtain⟨b,Z0⟩:=mI (ls:=Z8) (i:=U g) f4
 have av:=gq aj Z0
 obtain⟨nD,nE,nG⟩:(0<=b.b/\b.b<=(X b.e.a:Int))/\X b.f.a<=24/\X b.e.a<=24:=Tk.wat (ws:=p) f8 av
 have nH:X aG<=6:=Tk.rows (ws:=p) (hs:=a.a.a.a) f8
 have nI:X p+X a.a.a.a<=6:=Tk.n (ws:=p) (rs:=aG) f8
 refine qt (v:=vI b.b) 3 Z (λ _ ⟨_,H9⟩=>JS Z (bT.one B5 (((H9.rds (i:=6) Z).elem aW.len Z0 f6).at_ (k:=3) Z))) (qv 4 Z Z (qk (Zq (Zw ⟨ab d,ao d+(U g) *4,Zv⟩)) 5 Z (qk (Zq (Zw ⟨ab d,ao d+(U g) *4+2,Zv⟩)) 6 Z (qt (v:= W b.e.A (X b.e.a) b.e.c) 7 Z (λ _ ⟨_,H9⟩=>JS Z (bT.one Tryz.isAgg97 (((H9.rds (i:=6) Z).elem aW.len Z0 f6).at_ (k:=2) Z))) (qk (vJ (X b.e.a)) 8 Z (qk (Zb (b.b < (X b.e.a:Int))) 9 Z (qn (JK ?_))))))))
 by_cases dm:b.b < (X b.e.a:Int)
 refine jT (dT dm) (sk (bo (JG ?_)))
 refine mX 13 [18] (JP (bI.block (JP (bI.block (JP J3))))) iD ?_
 intro oO lu
 refine qv 0 Z Z (qp g0 0 1 Z (qp g0 0 2 Z (ql 3 Z 1 S3 Z Z Z (qp u 0 4 Z (qp u 19 5 Z (ql 6 Z 0 Tryz.isAgg75 Z Z Z (qv 7 Z Z (qv 8 Z Z (qk (Zq (Zw ⟨ab d,ao d+(U g) *4,Zv⟩)) 9 Z (qk (Zq (Zw ⟨ab d,ao d+(U g) *4+2,Zv⟩)) 10 Z (qt (v:= W b.e.A (X b.e.a) b.e.c) 11 Z (λ _ ⟨_,H9⟩=>JS Z (bT.one Tryz.isAgg97 (((H9.rds (i:=6) Z).elem aW.len Z0 f6).at_ (k:=2) Z))) (qv 12 Z Z (qk (Zq (Zw ⟨ab d,ao d+(U g) *4,Zv⟩)) 13 Z (qk (Zq (Zw ⟨ab d,ao d+(U g) *4+3,Zv⟩)) 14 Z (qt (v:=vI b.b) 15 Z (λ _ ⟨_,H9⟩=>JS Z (bT.one B5 (((H9.rds (i:=6) Z).elem aW.len Z0 f6).at_ (k:=3) Z))) ?_)))))))))))))))
 obtain⟨gI,bE⟩:=mI (ls:=b.e.a) (i:=U b.b) f4
 refine qt (v:= Zq (Zw ⟨ab b.e.A,ao b.e.A+(U b.b) *3,Zv⟩)) 16 Z (λ _ ⟨_,H9⟩=>JU (vz) Z (Il (r:=b.b) Z Y) ((dH H9 (i:=9) Z (bM (P8.2 ⟨b,E1 Z0, .tail _ b3⟩) bQ)).addr (i:=U b.b) Y) Y) (qt (v:= Zx (Zc (aF.J gI))) 17 Z (λ _ ⟨_,H9⟩=>JS Z (JW (cs:=(aF.J gI)) Tryz.isAgg118 Tryz.sizeOf118 ((dH H9 (i:=9) Z (bM (P8.2 ⟨b,E1 Z0, .tail _ b3⟩) bQ)).elem aF.len bE f6))) ?_)
 have lv:=lu.pf [8,11,12]
 obtain⟨⟨bF,aQ,aR,aL,Z4⟩,aJ⟩:∃ q:Int × (List Nat) × (List Nat) × Int × aZ,iP (aZ.q (O aG)) p1 gI=q:=⟨_,Z⟩
 obtain⟨oP,jJ,nJ,jK,nK⟩:=KE lv
 refine qd 18 Z (J6 Tryz.call38 Z (xW _ _ x (aZ.q (O aG)) dh di bB p1 gI bF aQ aR aL Z4 jJ eG g5 (by first | assumption | exact jE.hd f8 | exact(Tk.snd f8).hd) (by first | assumption | exact Tk.snd f8) aJ) ?_)
 rintro _ jL ⟨bG,bH,bJ,bL,af,ag,ah,rfl,iF,aS,eQ⟩
 have bi:=jK _ _ iF
 have lw:=bg aS
 have lC:=zr 0 bi
 have lF:=zr 1 bi
 have lG:=zr 3 bi
 replace eQ:X aQ<=12/\X aR<=12:=eQ
 have iG:Tk p a.a.a.a Z4.a.a:=Tk.ask f8 f8 aJ
 have lH:X Z4.a.a<=6:=Tk.rows iG
 refine⟨.inl f1, ?_⟩
 refine Ki (v:= .tuple #[vI bF, W bG (X aQ) bH, W bJ (X aR) bL,vI aL]) 19 Z f1 (λ _=>JM Z) (Ki (v:=vI bF) 20 Z f1 (λ _=>yk) (Ki (v:= W bG (X aQ) bH) 21 Z f1 (λ _=>yk) (Ki (v:= W bJ (X aR) bL) 22 Z f1 (λ _=>yk) (Ki (v:=vI aL) 23 Z f1 (λ _=>yk) (Ki (v:=vI bF) 24 Z f1 (λ _=>KG Z) (Ki (v:= W bG (X aQ) bH) 25 Z f1 (λ _=>KG Z) (Ki (v:= W bJ (X aR) bL) 26 Z f1 (λ _=>KG Z) (Ki (v:=vI aL) 27 Z f1 (λ _=>KG Z) (qn (JK (JG (sr (Mz Z (fw (Zb (¬ (aL=0))) (JZ (e:= !(Zy (aL=0))) yk ZY) (nt ?_)))))))))))))))
 by_cases bn:aL=0
 refine jF (dF (Nc bn)) (sk (sr (Mz Z (Mz Z (Mz Z ?_)))))
 have jM:=bi.pf [6,14]
 obtain⟨S,bv⟩:∃ q,lL (bK.q M.a (O Z2)) aQ aR=q:=⟨_,Z⟩
 obtain⟨nM,iH,lI,iI,eU⟩:=Ko jM
 refine cl Tryz.call137 (sK _ _ g0 (bK.q M.a (O Z2)) Z6 P Z9 Z3 aO aP u bG (X aQ) bH aQ bJ (X aR) bL aR S iH (eU _ 0 _ Z bQ) Z Y (eU _ 1 _ Z bQ) Z Y f2 bv) ?_
 rintro _ gM ⟨ax,az,rfl,iK,eX⟩
 have gN:=iI _ _ iK
 have lJ:=gN.rowCQ (i:=1) Z
 replace eX:X S.b.a=X Z2+X aQ+X aR:=eX
 have lK:gm (N0 p (U g) (bA.q b.a (O b.f.a) (O b.e.a) (b.b+1))) (U g)+1=gm p (U g):=zR (ws:=p) (y:=(bA.q b.a (O b.f.a) (O b.e.a) (b.b+1))) av (show b.b < (X b.e.a:Int) from by omega) Z Z
 refine nt (JG (JG ?_))
 have bq:=gN.px [] [2,3] []
 refine JI (Mn Z (bo (sr (Kz (Zb (bF=2)) (An Z ?_)))))
 by_cases bO:bF=2
 refine jT (dT bO) (sr (An Z (rt (bR (tR (bR (tR (bR (tR (rs ?_))))))))))
 have aT:X a.b.a=X p:=by first | omega | (simp only [N1]; done) | (simp only [N1,o2,q5,L3,o0,o1,O7]; omega)
 have jN:Own w D gM [blk g0 [vP u 0, W Z6 (X M.a.a.a) P, W Z9 (X M.a.b.a) Z3, V M.a.e, W ax (X S.b.a) az] 92,jD ax (X S.b.a) az (q0 dC.J S.b.a) 216 2,blk x [W af (X Z4.a.a) ag] 114,row af (X Z4.a.a) ag (q0 aB.J ah) 164 6,sepL (q0 J4 ah),blk u (kB a G (X a.a.b.a) I s (X a.a.a.a) h Z7 (X a.a.f.a) K a.a.k B d (X p) l x) 80,row Z6 (X M.a.a.a) P (q0 bU.J Q) 47 21,sepL (q0 Kg Q),row s (X a.a.a.a) h (q0 bf.J j) 60 2,sepL (q0 J9 j),row d (X p) l (q0 aW.J Z8) 99 4,blk B [W F (X C.a.a) E] 27,sepL (q0 J5 Z8)]:=by first | (rw [<- aT]; exact bq) | (have q9:=bq; rw [aT] at q9; exact q9)
 have jO:=jN.px [0,6,7] [] [11,2,3,4]
 obtain⟨rfl,rfl,rfl,rfl⟩:=fO (zj hr (show _=(0,bK.q M.a (O S.b.a),aA.q a.a (O p),Z4) from N (ae aK) (N (ip aM) (iJ (N (bC) (N (ae (bu av)) (N (ip dm) (N (ae (bu bE)) (N (ae aJ) (N (ip bn) (N (ae bv) (ip bO))))))))))))
 exact⟨Z6,P,Q,ax,az,s,h,j,d,l,Z8,af,ag,ah,(by first | rfl | (rw [<- aT]; done) | (rw [<- aT]; rfl) | (rw [aT]; first | done | rfl)),jO,aH,R,aj,aS⟩
 refine jF (dF bO) (sr (Kz (Zb (bF=3)) (An Z ?_)))
 by_cases dz:bF=3
 refine jT (dT dz) (sr (Mz Z (Mz Z ?_)))
 have aU:X a.b.a=X p:=by first | omega | (simp only [N1]; done) | (simp only [N1,o2,q5,L3,o0,o1,O7]; omega)
 have jP:Own w D gM [blk g0 [vP u 0, W Z6 (X M.a.a.a) P, W Z9 (X M.a.b.a) Z3, V M.a.e, W ax (X S.b.a) az] 92,jD ax (X S.b.a) az (q0 dC.J S.b.a) 216 2,blk x [W af (X Z4.a.a) ag] 114,row af (X Z4.a.a) ag (q0 aB.J ah) 164 6,sepL (q0 J4 ah),blk u (kB a G (X a.a.b.a) I s (X a.a.a.a) h Z7 (X a.a.f.a) K a.a.k B d (X p) l x) 80,row Z6 (X M.a.a.a) P (q0 bU.J Q) 47 21,sepL (q0 Kg Q),row s (X a.a.a.a) h (q0 bf.J j) 60 2,sepL (q0 J9 j),row d (X p) l (q0 aW.J Z8) 99 4,blk B [W F (X C.a.a) E] 27,sepL (q0 J5 Z8)]:=by first | (rw [<- aU]; exact bq) | (have q9:=bq; rw [aU] at q9; exact q9)
 have jR:=jP.pf [0,6,7,5,10,12]
 obtain⟨⟨bS,dA⟩,eY⟩:∃ q:bK × aA,iE (bK.q M.a (O S.b.a)) p1 (aA.q a.a (O p))=q:=⟨_,Z⟩
 obtain⟨nN,iL,lM,iM,lN⟩:=KH jR
 refine cl Tryz.call138 (uP _ _ g0 (bK.q M.a (O S.b.a)) Z6 P Q Z9 Z3 ax az p1 u (aA.q a.a (O p)) G I s h Z7 K d l Z8 B x bS dA iL aH aj f2 eY) ?_
 rintro _ nO ⟨gP,gQ,jS,gT,gU,jU,rfl,iO,eZ,fe,fq⟩
 have fu:=iM _ _ iO
 have lQ:=bg eZ
 have lS:=bg fe
 have lT:=zr 1 fu
 have lU:=zr 4 fu
 replace fq:X bS.a.a.a=X M.a.a.a+1:=fq
 refine ns (Mz Z (Mz Z ?_))
 have jV:=fu.pf [0,6,3,7,8,9]
 obtain⟨⟨fA,gV⟩,fB⟩:∃ q:bK × aZ,eO (bK.q (dL.q (O bS.a.a.a) (O M.a.b.a) M.a.e) (O S.b.a)) p1 (aA.q a.a (O dA.b.a)) Z4=q:=⟨_,Z⟩
 obtain⟨nP,iQ,lV,iR,lW⟩:=KH jV
 refine cl Tryz.call89 (o9 _ _ g0 (bK.q (dL.q (O bS.a.a.a) (O M.a.b.a) M.a.e) (O S.b.a)) gP gQ Z9 Z3 ax az p1 u (aA.q a.a (O dA.b.a)) G I s h Z7 K gT gU B x Z4 af ag ah fA gV iQ aS f2 (by first | assumption | exact Tk.snd f8) fB) ?_
 rintro _ nQ ⟨jW,jX,jY,jZ,j3,rfl,iT,fC,fD⟩
 have fE:=iR _ _ iT
 have lX:=bg fC
 have lY:=fE.rowCQ (i:=1) Z
 have lZ:=zr 4 fE
 replace fD:X fA.b.a<=X S.b.a+24:=fD
 refine ns (An Z (rt (bR (tR (bR (tR (bR (tR (rs ?_)))))))))
 have j4:=fE.px [0,6,7] [] [8,9,12,3,4,5]
 obtain⟨rfl,rfl,rfl,rfl⟩:=fO (zj hr (show _=(0,bK.q (dL.q (O bS.a.a.a) (O M.a.b.a) M.a.e) (O fA.b.a),aA.q a.a (O dA.b.a),gV) from N (ae aK) (N (ip aM) (iJ (N (bC) (N (ae (bu av)) (N (ip dm) (N (ae (bu bE)) (N (ae aJ) (N (ip bn) (N (ae bv) (N (iN bO) (N (ip dz) (N (ae eY) (ae fB)))))))))))))))
 exact⟨gP,gQ,jS,jW,jX,s,h,j,gT,gU,jU,jY,jZ,j3,(by first | rfl | (rw [<- aU]; done) | (rw [<- aU]; rfl) | (rw [aU]; first | done | rfl)),j4,eZ,R,fe,fC⟩
 refine jF (dF dz) (J8 (bN (JK (JI (Mz Z (Kz (Zq (Zw ⟨ab d,ao d+(U g) *4,Zv⟩)) (Kz (Zq (Zw ⟨ab d,ao d+(U g) *4+3,Zv⟩)) (fw (vI b.b) (JS Z (bT.one B5 (((bq.rds (i:=10) Z).elem aW.len Z0 f6).at_ (k:=3) Z))) (fw (vI (b.b+1)) (JN (e:=IntKind.i64.wrap (b.b+1)) yk i8) (Kz (Zq (Zw ⟨ab d,ao d+(U g) *4,Zv⟩)) (Kz (Zq (Zw ⟨ab d,ao d+(U g) *4+3,Zv⟩)) ?_)))))))))))
 have j5:=bq.pf [10]
 refine Kw (Do.storeRow (vs:= [vI (b.b+1)]) (o:=(U g) *4+3) (q:=ao d+(U g) *4+3) j5 Z Y Z Tryz.sizeOf3 Z Z (M9 Z) (jG aW.len Z0 (M9 Z)) (kE (y:=(aW.q b.a b.f b.e (b.b+1))) aW.len Z (M9 Z) Z0) ?_)
 intro j6 kg
 have ko:Own w D j6 [row d (X a.b.a) l (q0 aW.J (N0 Z8 (U g) (aW.q b.a b.f b.e (b.b+1)))) 99 4,blk g0 [vP u 0, W Z6 (X M.a.a.a) P, W Z9 (X M.a.b.a) Z3, V M.a.e, W ax (X S.b.a) az] 92,jD ax (X S.b.a) az (q0 dC.J S.b.a) 216 2,blk x [W af (X Z4.a.a) ag] 114,row af (X Z4.a.a) ag (q0 aB.J ah) 164 6,sepL (q0 J4 ah),blk u (kB a G (X a.a.b.a) I s (X a.a.a.a) h Z7 (X a.a.f.a) K a.a.k B d (X a.b.a) l x) 80,row Z6 (X M.a.a.a) P (q0 bU.J Q) 47 21,sepL (q0 Kg Q),row s (X a.a.a.a) h (q0 bf.J j) 60 2,sepL (q0 J9 j),blk B [W F (X C.a.a) E] 27,sepL (q0 J5 (N0 Z8 (U g) (aW.q b.a b.f b.e (b.b+1))))]:=by rw [mi (f:=J5) (y:=(aW.q b.a b.f b.e (b.b+1))) Z0 Z]; exact kg
 have l6:X (N0 Z8 (U g) (aW.q b.a b.f b.e (b.b+1)))=X (N0 p (U g) (bA.q b.a (O b.f.a) (O b.e.a) (b.b+1))):=bg (eT aj Z)
 have l7:X (N0 p (U g) (bA.q b.a (O b.f.a) (O b.e.a) (b.b+1)))=X p:=N1
 refine WL.nil (bN ?_)
 have kr:=ko.px [6] [] [0,11,3,12,2,4,5]
 exact JX (ax,az,S.b.a,af,ag,ah,Z4.a.a,(N0 Z8 (U g) (aW.q b.a b.f b.e (b.b+1))),(N0 p (U g) (bA.q b.a (O b.f.a) (O b.e.a) (b.b+1))),iC) ⟨Z,Z,Z,Z,ZW⟩ (eD.2 ⟨kr,by exact(eT aj Z),by first | omega | (simp only [N1] <;> omega) | (simp only [O7]),by exact aS,by first | assumption | (refine Tk.bump ?_ av rfl rfl rfl ?_; assumption; (dsimp only; omega)),by first | assumption | exact vZ.set f8 av rfl | exact nU (Tk.a f8) (aK.trans (congrArg (λ q=>(_,q)) aM)),by first | omega | (have q9:=GI (by assumption:Tk a.b.a _ _) (U g); omega),Y,Eq.trans (bC) (Eq.trans (ae (bu av)) (Eq.trans (ZK dm) (Eq.trans (ae (bu bE)) (Eq.trans (ae aJ) (Eq.trans (ZK bn) (Eq.trans (ae bv) (Eq.trans (ZV bO) (ZV dz))))))))⟩) (by show iC < iC+1; omega)
 refine jT (dT bn) (sr (Mz Z (An Z (rt (tR (bR (tR (bR (tR (rs ?_))))))))))
 have aV:X a.b.a=X p:=by first | omega | (simp only [N1]; done) | (simp only [N1,o2,q5,L3,o0,o1,O7]; omega)
 have ku:Own w D jL [row bG (X aQ) bH (q0 (eN .u64) aQ) 32 1,row bJ (X aR) bL (q0 (eN .u64) aR) 32 1,blk x [W af (X Z4.a.a) ag] 114,row af (X Z4.a.a) ag (q0 aB.J ah) 164 6,sepL (q0 J4 ah),blk u (kB a G (X a.a.b.a) I s (X a.a.a.a) h Z7 (X a.a.f.a) K a.a.k B d (X p) l x) 80,blk g0 [vP u 0, W Z6 (X M.a.a.a) P, W Z9 (X M.a.b.a) Z3, V M.a.e, W aO (X Z2) aP] 92,row Z6 (X M.a.a.a) P (q0 bU.J Q) 47 21,sepL (q0 Kg Q),row s (X a.a.a.a) h (q0 bf.J j) 60 2,sepL (q0 J9 j),row d (X p) l (q0 aW.J Z8) 99 4,blk B [W F (X C.a.a) E] 27,sepL (q0 J5 Z8),jD aO (X Z2) aP (q0 dC.J Z2) 216 2]:=by first | (rw [<- aV]; exact bi) | (have q9:=bi; rw [aV] at q9; exact q9)
 have kv:=ku.px [6,7,8,14] [0,1] [12,2,3,4]
 obtain⟨rfl,rfl,rfl,rfl⟩:=fO (zj hr (show _=(aL,bK.q M.a (O Z2),aA.q a.a (O p),Z4) from N (ae aK) (N (ip aM) (iJ (N (bC) (N (ae (bu av)) (N (ip dm) (N (ae (bu bE)) (N (ae aJ) (iN bn))))))))))
 exact⟨Z6,P,Q,aO,aP,s,h,j,d,l,Z8,af,ag,ah,(by first | rfl | (rw [<- aV]; done) | (rw [<- aV]; rfl) | (rw [aV]; first | done | rfl)),kv,aH,R,aj,aS⟩
 refine jF (dF dm) (Wp.exit (JV ?_))
 have iU:fZ M p1 a C g ((gm a.b.a (U g))+1) M.b.a Z5.a.a a.b.a=Sum.inl (Z2,aG,p,(aW.abs b)):=N (bC) (N (ae (bu av)) (iN dm))
 refine JV (J2 (JK (sr (Mz Z (Mz Z (Kz (Zq (Zw ⟨ab d,ao d+(U g) *4,Zv⟩)) (fw (Zx (Zc (aW.J b))) (JS Z (JW (cs:=(aW.J b)) Tryz.isAgg99 Tryz.sizeOf99 ((iD.rds (i:=6) Z).elem aW.len Z0 f6))) ?_)))))))
 refine WL.do Z (J6 Tryz.call139 Z ?_ (λ _ _ k=>k))
 refine cb Tryz.func139 ?_
 refine sr ?_
 refine cu (aW.J b) 99 iD ?_
 intro bV nR kw
 refine An Z (JG ?_)
 have ky:=kw.pb [1,5,6,7,10]
 refine mX 9 [] (JP J3) ky ?_
 intro kz gW
 refine qv 0 Z Z (qp g0 0 1 Z (qp g0 0 2 Z (ql 3 Z 1 S3 Z Z Z (qp bV 0 4 Z (ql 5 Z 0 E3 Z Z Z ?_)))))
 refine GX.do 6 Z f1 (J6 Tryz.call87 Z ?_ (λ _ _ k=>k))
 refine cb Tryz.func87 ?_
 refine sr (Mz Z (Mz Z ?_))
 have aX:X a.b.a=X p:=by first | omega | (simp only [N1]; done) | (simp only [N1,o2,q5,L3,o0,o1,O7]; omega)
 have kC:Own w D kz [blk bV (aW.J b) 99,blk g0 [vP u 0, W Z6 (X M.a.a.a) P, W Z9 (X M.a.b.a) Z3, V M.a.e, W aO (X Z2) aP] 92,row Z6 (X M.a.a.a) P (q0 bU.J Q) 47 21,sepL (q0 Kg Q),blk B [W F (X C.a.a) E] 27,blk x [W dh (X aG) di] 114,jD aO (X Z2) aP (q0 dC.J Z2) 216 2,row dh (X aG) di (q0 aB.J bB) 164 6,sepL (q0 J4 bB),blk u (kB a G (X a.a.b.a) I s (X a.a.a.a) h Z7 (X a.a.f.a) K a.a.k B d (X p) l x) 80,row s (X a.a.a.a) h (q0 bf.J j) 60 2,sepL (q0 J9 j),row d (X p) l (q0 aW.J Z8) 99 4,sepL (q0 J5 Z8)]:=by first | (rw [<- aX]; exact gW) | (have q9:=gW; rw [aX] at q9; exact q9)
 have dB:=kC.pf [9]
 have l8:=zr 12 dB
 obtain⟨⟨dD,gX⟩,fF⟩:∃ q:Int × Bool,bX (aA.q a.a (O p)) b.a=q:=⟨_,Z⟩
 obtain⟨nS,iV,l9,iW,dn⟩:=Kb dB
 refine cl Tryz.call79 (jv _ _ u (aA.q a.a (O p)) G I s h Z7 K d l Z8 B x b.a dD gX iV aj (dn _ 11 _ Z bQ) Y (λ x9 h9=>⟨dn _ 12 _ Z (bM (P8.2 ⟨x9,h9,b3⟩) bQ),dH (φ:=λ _=>_) dB (i:=13) Z (bM (P8.2 ⟨x9,h9,b3⟩) dP),dn _ 12 _ Z (bM (P8.2 ⟨x9,h9, .tail _ b3⟩) bQ),dH (φ:=λ _=>_) dB (i:=13) Z (bM (P8.2 ⟨x9,h9, .tail _ b3⟩) dP)⟩) f2 fF) ?_
 rintro _ nT ⟨rfl,iX,fG,fH⟩
 have gY:=iW _ _ iX
 replace fG:0<=dD/\dD<=(X p:Int):=fG
 replace fH:Bool.toNat gX=0\/dD < (X p:Int):=fH
 obtain⟨iY,iZ⟩:=fK ((tO (m:=(aA.q a.a (O p))) (i:=(U g)) (Tk.a f8) ⟨_,av,Z⟩).symm.trans fF)
 subst iY iZ
 refine Mz Z (Kz (vJ (U g)) (Kz (V Zk) (Az Z (Ar Z (Mn Z (jt (JI (Mz Z (Mz Z (Kz (vP u 0) (Kz (vP u 18) (Lz (W d (X p) l) gY 0 Tryz.isAgg77 (Mz Z (Mz Z (fw (vJ (U g+1)) (JN (e:=IntKind.i64.wrap (((U g:Nat):Int)+1)) yk f3) ?_)))))))))))))))
 have kD:=gY.pf [12,13]
 obtain⟨nV,ja,mf,jb,mg⟩:=Ko kD
 refine cl Tryz.call142 (uM _ _ d (X p) l Z8 p ((U g:Nat):Int) ((U g+1:Nat):Int) (U g) b ja Y aj Y Y Y Z0) ?_
 rintro _ nW ⟨dE,dG,rfl,jc⟩
 have fI:=jb _ _ jc
 have mh:X (t8 (U g) Z8++r6 ((U g)+1) Z8)=X (t8 (U g) p++r6 ((U g)+1) p):=by exact bg (oL aj)
 have mo:X (t8 (U g) p++r6 ((U g)+1) p)+1=X p:=by simp only [o2,o0,o1]; omega
 have mq:=zr 2 fI
 have mr:=zr 3 fI
 refine Kz (vP u 0) (Kz (vP u 18) ?_)
 have kF:=fI.pf [4]
 refine cO [W dE (X (t8 (U g) p++r6 ((U g)+1) p)) dG] 18 kF Tryz.sizeOf77 ?_
 intro nX kG
 refine WL.nil (Kl (res0 Z) ?_)
 have dI:=kG.pb [0,1,2,3,4,14,15]
 refine⟨.inr ⟨_,dI⟩, ?_⟩
 refine qn (JK (sr (Kz (vP bV 0) (Lz (vU b.a) dI 0 E3 (Kz (vP bV 1) (Lz (W b.f.A (X b.f.a) b.f.c) dI 0 Tryz.isAgg44 (Kz (Zx #[vU b.a, W b.f.A (X b.f.a) b.f.c]) ?_)))))))
 refine cu [.int .u64 0, W Zv 0 0] 60 dI ?_
 intro nY nZ kH
 refine cO [vU b.a, W b.f.A (X b.f.a) b.f.c] 0 kH E2 ?_
 intro og kI
 refine nt (JG ?_)
 refine mX 17 [] (JP J3) kI ?_
 intro oh kJ
 refine qv 0 Z Z (qp g0 0 1 Z (qp g0 0 2 Z (ql 3 Z 2 S3 Z Z Z (qp bV 0 4 Z (ql 5 Z 1 E3 Z Z Z ?_)))))
 have fJ:=kJ.pf [10]
 have mD:=zr 15 fJ
 obtain⟨⟨L,fM⟩,fP⟩:∃ q:Int × Bool,dX (aA.q a.a (O (t8 (U g) p++r6 ((U g)+1) p))) b.a=q:=⟨_,Z⟩
 obtain⟨ol,jd,mE,je,fQ⟩:=Kb fJ
 refine qd 6 Z (J6 Tryz.call77 Z (nL _ _ u (aA.q a.a (O (t8 (U g) p++r6 ((U g)+1) p))) G I s h j Z7 K dE dG B x b.a L fM jd R (fQ _ 14 _ Z bQ) Y (λ x9 h9=>⟨fQ _ 15 _ Z (bM (P8.2 ⟨x9,h9,b3⟩) bQ),dH (φ:=λ _=>_) fJ (i:=16) Z (bM (P8.2 ⟨x9,h9,b3⟩) dP)⟩) f2 fP) ?_)
 rintro _ om ⟨rfl,jf,fT,fU⟩
 have kK:=je _ _ jf
 replace fT:0<=L/\L<=(X a.a.a.a:Int):=fT
 replace fU:Bool.toNat fM=0\/L < (X a.a.a.a:Int):=fU
 have gZ:=kK.pb [0,11,12,13,14,15,16]
 refine⟨.inr ⟨_,gZ⟩, ?_⟩
 refine qv 7 Z Z (qk (vI L) 8 Z (qk (V fM) 9 Z (qa 10 Z Z (qa 11 Z Z (qn (JK (JG ?_)))))))
 have kL:=gZ.px [] [1] []
 have kM:=kL.pf [0,1,4,5,9]
 refine Gq [19] (JP J3) kM ?_
 intro oo kN
 refine qv 0 Z Z (qp g0 0 1 Z (qp g0 0 2 Z (ql 3 Z 1 S3 Z Z Z (qv 4 Z Z (qp g0 0 5 Z (qp g0 0 6 Z (ql 7 Z 1 S3 Z Z Z (qp u 0 8 Z (qp u 0 9 Z (qp u 6 10 Z (ql 11 Z 4 Tryz.isAgg34 Z Z Z (qv 12 Z Z (qb 13 Z 0 Tryz.isAgg60 E2 Z Z Z ?_)))))))))))))
 refine qd 14 Z (KQ (cs:= [vU b.a, W b.f.A (X b.f.a) b.f.c]) (t:=60) (sz:=2) (m:=1) kN Z Z Za Z ?_)
 intro ib oq gp
 replace gp:=Ke (y:=ma ib 1 (q0 bf.J ([(bf.q b.a (Sv.q b.f.A b.f.c b.f.a))])) 60 2) Z gp
 have ic:=gp.pf [1,2,3,4,5]
 refine⟨.inr ⟨_,ic⟩, ?_⟩
 have kP:=ic.pf [15,5,16,13]
 obtain⟨ou,jg,mF,jh,mG⟩:=KT kP
 refine qd 15 Z (J6 Tryz.call182 Z (AB _ _ s (X a.a.a.a) h j a.a.a.a L (U L) ib (bf.q b.a (Sv.q b.f.A b.f.c b.f.a)) (df.q b.a (O b.f.a)) jg Y R Z Y Y Y) ?_)
 rintro _ ow ⟨gu,gy,rfl,ji⟩
 have kQ:=jh _ _ ji
 have mH:X (t8 (U L) j++((bf.q b.a (Sv.q b.f.A b.f.c b.f.a))::r6 (U L) j))=X (t8 (U L) a.a.a.a++((df.q b.a (O b.f.a))::r6 (U L) a.a.a.a)):=by exact bg (jQ (z:=(df.q b.a (O b.f.a))) R Z)
 have mJ:X (t8 (U L) a.a.a.a++((df.q b.a (O b.f.a))::r6 (U L) a.a.a.a))=X a.a.a.a+1:=by simp only [o2,o0,q5,o1]; omega
 have ig:=kQ.pf [2,3,4,5,6]
 refine⟨.inr ⟨_,ig⟩, ?_⟩
 refine qp u 0 16 Z (qp u 0 17 Z (qp u 6 18 Z ?_))
 have kR:=ig.pf [4]
 refine qe 19 Z (Do.store (vs:= [W gu (X (t8 (U L) a.a.a.a++((df.q b.a (O b.f.a))::r6 (U L) a.a.a.a))) gy]) (o:=6) kR Z Z Tryz.sizeOf34 Z Z Z Z ?_)
 intro oz ik
 refine⟨.inl f1, ?_⟩
 refine qn (JK (sr (Mz Z (La ([vU b.a, W b.f.A (X b.f.a) b.f.c]) ik 1 Tryz.isAgg60 E2 ?_))))
 have kS:=ik.pf [2,7,8,0,3]
 obtain⟨⟨il,gz⟩,gB⟩:∃ q:Int × bK,fV (bK.q M.a (O Z2)) (df.q b.a (O b.f.a)) (aA.q (bD.q a.a.l a.a.r a.a.t a.a.s a.a.g (O a.a.b.a) (O (t8 (U L) a.a.a.a++((df.q b.a (O b.f.a))::r6 (U L) a.a.a.a))) (O a.a.f.a) a.a.k a.a.u a.a.j a.a.e) (O (t8 (U g) p++r6 ((U g)+1) p))) C=q:=⟨_,Z⟩
 obtain⟨oC,jk,gD,jl,jm⟩:=Ld kS
 refine cl Tryz.call78 (sF _ _ g0 (bK.q M.a (O Z2)) Z6 P Q Z9 Z3 aO aP (df.q b.a (O b.f.a)) b.f.A (X b.f.a) b.f.c u (aA.q (bD.q a.a.l a.a.r a.a.t a.a.s a.a.g (O a.a.b.a) (O (t8 (U L) a.a.a.a++((df.q b.a (O b.f.a))::r6 (U L) a.a.a.a))) (O a.a.f.a) a.a.k a.a.u a.a.j a.a.e) (O (t8 (U g) p++r6 ((U g)+1) p))) G I gu gy Z7 K dE dG x B C F E il gz jk aH (gD _ iA) Y Z (jm _ 3 _ Z (bM (P8.2 ⟨_,List.mem_append_right _ b3,b3⟩) bQ)) Y (gD _ bY) Y f2 gB) ?_
 rintro _ oD ⟨kT,kU,kV,rfl,jo,gF,gG⟩
 have iq:=jl _ _ jo
 have mK:=bg gF
 have mM:=zr 1 iq
 replace gG:X gz.a.a.a<=X M.a.a.a+1:=gG
 refine An Z (rt (rs (An Z (rt (rs ?_)))))
 have kW:=iq.px [0,1,2,9] [5,14] [4,6,10,11]
 obtain⟨rfl,rfl,rfl,rfl⟩:=fO (zj hr (show _=(il,bK.q (dL.q (O gz.a.a.a) (O M.a.b.a) M.a.e) (O Z2),aA.q (bD.q a.a.l a.a.r a.a.t a.a.s a.a.g (O a.a.b.a) (O (t8 (U L) a.a.a.a++((df.q b.a (O b.f.a))::r6 (U L) a.a.a.a))) (O a.a.f.a) a.a.k a.a.u a.a.j a.a.e) (O (t8 (U g) p++r6 ((U g)+1) p)),aZ.q (O aG)) from N (ae aK) (N (ip aM) (N (lD iU) (N (ae fP) (ae gB))))))
 exact⟨kT,kU,kV,aO,aP,gu,gy,(t8 (U L) j++((bf.q b.a (Sv.q b.f.A b.f.c b.f.a))::r6 (U L) j)),dE,dG,(t8 (U g) Z8++r6 ((U g)+1) Z8),dh,di,bB,(by first | rfl | (rw [<- aX]; done) | (rw [<- aX]; rfl) | (rw [aX]; first | done | rfl)),kW,gF,(jQ (z:=(df.q b.a (O b.f.a))) R Z),(oL aj),eG⟩
 have h36t:Bool.toNat cZ=0:=by rw [aM]; rfl
 refine jT (cn aM) (sr (An Z (rt (tR (rs ?_)))))
 have kX:=bz.pf [1,2,3,4]
 obtain⟨rfl,rfl,rfl,rfl⟩:=fO (zj hr (show _=(0,M,a,Z5) from N (ae aK) (eP aM))).symm
 exact⟨Z6,P,Q,dw,dx,s,h,j,d,l,aa,ak,au,Z1,Z,kX,aH,R,ai,aC⟩
end
open List renaming mem_append->T1,mem_filter->T2,mem_map->T6,mem_singleton->m3,nodup_append->u7,nodup_nil->U2,not_mem_nil->v6,pairwise_append->T0,pairwise_cons->N7,pairwise_map->T5
open Nat renaming ne_of_lt->U1
theorem put_mem {l:List aN} {t:Nat} {x:aF} {q:aN} (h:q ∈ iK l t x):(q.a=t/\q.f=J)\/(q ∈ l/\q.a≠t):=by
  unfold iK at h
  rcases T1.1 h with h | h
  . have:=T2.1 h
    exact .inr ⟨this.1,U1 (of_decide_eq_true this.2)⟩
  . rcases List.mem_cons.1 h with h | h
    . rw [h]; exact .inl ⟨Z,Z⟩
    . have:=T2.1 h
      exact .inr ⟨this.1,Nat.ne_of_gt (of_decide_eq_true this.2)⟩
theorem zT {t:Nat} {x:aF} {q:aN} (h:dies t x q=Zk):q.f=Zk:=by unfold dies at h; exact(Bool.and_eq_true _ _ ▸ h).1
theorem wh {l:List aN} {t:Nat} {x:aF} {n:Nat} (h:n ∈ r7 (λ q:aN=>q.a) ((iK l t x).filter (dies t x))):∃ q ∈ l,q.a=n/\q.f=Zk/\n≠t:=by
  obtain⟨q,hq,rfl⟩:=T6.1 h
  obtain⟨c,b⟩:=T2.1 hq
  rcases put_mem c with ⟨_,a⟩ | ⟨a,d⟩
  . rw [zT b] at a; cases a
  . exact⟨q,a,Z,zT b,d⟩
theorem Cf {l:List aN} (hs:Up l) {t:Nat} {x:aF} {n:Nat} (h:n ∈ r7 (λ q:aN=>q.a) ((iK l t x).filter (dies t x))):∀ r ∈ (iK l t x).filter (λ s=> !dies t x s),r.a≠n:=λ r hr e=>by
  obtain⟨q,hq,rfl⟩:=T6.1 h
  obtain⟨b,c⟩:=T2.1 hq
  obtain⟨d,a⟩:=T2.1 hr
  have:=zL (si hs t x) d b e
  subst this
  rw [c] at a
  exact absurd a f6
theorem AZ {l:List aN} (hs:Up l) {t:Nat} {x:aF}:(r7 (λ q:aN=>q.a) ((iK l t x).filter (dies t x))).Nodup:=
  T5.2 (((si hs t x).filter _).imp λ e=>U1 e)
structure Se (m0 l:List aN) (g d:List Nat):Prop where q::
  wt:∀ r ∈ l,r.f=Zk->∃ s ∈ m0,s.a=r.a/\s.f=Zk
  f:∀ n ∈ g, ∃ s ∈ m0,s.a=n/\s.f=Zk
  a:∀ n ∈ d, ∃ s ∈ m0,s.a=n/\s.f=Zk
  b:∀ n ∈ d, ∀ r ∈ l,r.a≠n
  e:∀ n ∈ g, ∀ r ∈ l,r.a=n->r.f=J
  g:(g++d).Nodup
theorem Se.step {o l:List aN} {g d:List Nat} {r:aN} (hf:Fit l) (h:Se o l g d) (hr:r ∈ l) (hw:r.f=Zk):
    Se o ((iK l r.a r.e).filter λ s=> !dies r.a r.e s) (g++ [r.a]) (d++r7 (λ q:aN=>q.a) ((iK l r.a r.e).filter (dies r.a r.e))) where
  wt:=λ q hq hqw=>by
    rcases put_mem (T2.1 hq).1 with ⟨_,c⟩ | ⟨c,_⟩
    . rw [hqw] at c; cases c
    . exact h.wt q c hqw
  f:=λ n hn=>by
    rcases T1.1 hn with e | e
    . exact h.f n e
    . rw [m3.1 e]; exact h.wt r hr hw
  a:=λ n hn=>by
    rcases T1.1 hn with e | e
    . exact h.a n e
    . obtain⟨q,i,rfl,c,_⟩:=wh e
      exact h.wt q i c
  b:=λ n hn q hq=>by
    rcases T1.1 hn with e | e
    . rcases put_mem (T2.1 hq).1 with ⟨c,_⟩ | ⟨c,_⟩
      . rw [c]; exact h.b n e r hr
      . exact h.b n e q c
    . exact Cf hf.up e q hq
  e:=λ n hn q hq hqn=>by
    rcases put_mem (T2.1 hq).1 with ⟨_,c⟩ | ⟨c,m⟩
    . exact c
    . rcases T1.1 hn with e | e
      . exact h.e n e q c hqn
      . exact absurd (hqn.trans (m3.1 e)) m
  g:=by
    have p:r.a ∉ g:=λ e=>by have:=h.e _ e r hr Z; rw [hw] at this; cases this
    have t:r.a ∉ d:=λ e=>h.b _ e r hr Z
    obtain⟨u,v,w⟩:=u7.1 h.g
    refine u7.2 ⟨u7.2 ⟨u,by simp,λ a ha b hb e=>by rw [m3.1 hb] at e; exact p (e ▸ ha)⟩,u7.2 ⟨v,AZ hf.up,λ a ha b hb e=> ?_⟩,λ a ha b hb e=> ?_⟩
    . obtain⟨q,i,j,_⟩:=wh hb
      exact h.b a ha q i (by rw [j,e])
    . subst e
      rcases T1.1 ha with k | k
      . rcases T1.1 hb with f | f
        . exact w a k a f Z
        . obtain⟨q,i,j,c,_⟩:=wh f
          have:=h.e a k q i j
          rw [c] at this; cases this
      . rw [m3.1 k] at hb
        rcases T1.1 hb with f | f
        . exact t f
        . obtain⟨q,i,j,c,m⟩:=wh f
          exact m Z
theorem xZ {a m:List aN} {g d:List Nat} (hf:Fit m) (h:Se a m g d):Se a (dD (Wt m+1) m g d).1 (dD (Wt m+1) m g d).2.1 (dD (Wt m+1) m g d).2.2:=
  (uo (I:=λ l g' d'=>Se a l g' d') (λ l g' d' r hf hI hr hw _=>hI.step hf hr hw) (Wt m+1) m g d Y hf h).1
structure Sf (k:Nat) (m0 l:List aN) (g d:List Nat):Prop where q::
  wt:∀ r ∈ l,r.f=Zk->r.a=k\/∃ s ∈ m0,s.a=r.a/\s.f=Zk
  f:∀ n ∈ g, ∃ s ∈ m0,s.a=n/\s.f=Zk
  a:∀ n ∈ d, ∃ s ∈ m0,s.a=n/\s.f=Zk
  b:∀ n ∈ d, ∀ r ∈ l,r.a≠n
  e:∀ n ∈ g, ∀ r ∈ l,r.a=n->r.f=J
  g:(g++d).Nodup
theorem Se.sf {k:Nat} {a l:List aN} {g d:List Nat} (h:Se a l g d):Sf k a l (sj g) (sj d) where
  wt:=λ r hr hw=> .inr (h.wt r hr hw)
  f:=λ n hn=>h.f n (yw.1 hn)
  a:=λ n hn=>h.a n (yw.1 hn)
  b:=λ n hn=>h.b n (yw.1 hn)
  e:=λ n hn=>h.e n (yw.1 hn)
  g:=(((yY g).append (yY d)).nodup_iff).2 h.g
theorem wm (k:Nat) (m:List aN):Sf k m m [] []:=⟨λ r hr hw=> .inr ⟨r,hr,Z,hw⟩,λ _ h=>absurd h v6,λ _ h=>absurd h v6,λ _ h=>absurd h v6,λ _ h=>absurd h v6,U2⟩
theorem Cg {m:List aN} (hs:Up m) (t:Nat) (x:aF):Se m (gR m t x) [] (gD m t x) where
  wt:=λ q hq hqw=>by
    rcases put_mem (T2.1 hq).1 with ⟨_,a⟩ | ⟨a,_⟩
    . rw [hqw] at a; cases a
    . exact⟨q,a,Z,hqw⟩
  f:=λ _ h=>absurd h v6
  a:=λ n hn=>by
    obtain⟨q,b,c,a,_⟩:=wh hn
    exact⟨q,b,c,a⟩
  b:=λ n hn=>Cf hs hn
  e:=λ _ h=>absurd h v6
  g:=AZ hs
theorem Gg {m:List aN} {t:Nat} {x:aF} {q:aN} (h:q ∈ pO m t x):q.a=t\/q ∈ m:=by
  unfold pO at h
  rcases T1.1 h with h | h
  . exact .inr (T2.1 h).1
  . rcases List.mem_cons.1 h with h | h
    . rw [h]; exact .inl Z
    . exact .inr (T2.1 h).1
theorem CO {m:List aN} (hs:Up m) {t:Nat} (h:gu (aZ.q (O m)) t≠Zk):∀ r ∈ m,r.a=t->r.f=J:=λ r hr e=>by
  unfold gu at h
  rw [bG] at h
  rcases mQ hs t with ⟨a,p,q,rfl,hp,ha,hq,hf⟩ | ⟨a,q,rfl,ha,hq,hf⟩
  . rw [hf,ZK Z,bG] at h
    simp only [Int.toNat_natCast,gd] at h
    have:r=p:=zL hs hr i7 (by rw [e,hp])
    rw [this]; exact Bool.eq_false_iff.2 h
  . rcases T1.1 hr with b | b
    . exact absurd e (U1 (ha r b))
    . exact absurd e (Nat.ne_of_gt (hq r b))
theorem Ho {m:List aN} (h:jE m) (t:Nat) (x:aF):Sf t m (oP m t x).2.2.2.2 (oP m t x).2.1 (oP m t x).2.2.1/\((oP m t x).2.2.2.1=0->∀ r ∈ m,r.a=t->r.f=J):=by
  have nw:=CO (t:=t) h.up
  unfold oP
  by_cases b:dR x.j=0
  . rw [ZK b]
    by_cases a:gu (aZ.q (O m)) t=Zk
    . rw [ZK a]; exact⟨wm t m,λ e=>absurd (show (4:Int)=0 from e) f6⟩
    . rw [ZV a]
      by_cases c:ku (aZ.q (O m)) t x=Zk
      . rw [ZK c]; exact⟨wm t m,λ _=>nw a⟩
      . rw [ZV c]
        by_cases d:192<=kR m
        . rw [ZK d]; exact⟨wm t m,λ _=>nw a⟩
        . rw [ZV d]
          by_cases f:eu (aZ.q (O m)) t x= []
          . rw [ZK f]
            obtain⟨j,k⟩:=vW m h.up t x
            have l:=wJ m h.up t x
            have n:=h.len
            have o:=h.tot
            have i:kR (gR m t x)<=kR (iK m t x):=mq _ _
            have p:X (gR m t x)<=X (iK m t x):=List.length_filter_le _ _
            have hf:Fit (gR m t x):=⟨(si h.up t x).filter _,Y,Y⟩
            exact⟨(xZ hf (Cg h.up t x)).sf,λ _=>nw a⟩
          . rw [ZV f]
            by_cases g:List.getD (eu (aZ.q (O m)) t x) 0 ZZ < t
            . rw [ZK g]; exact⟨wm t m,λ _=>nw a⟩
            . rw [ZV g]
              refine⟨⟨λ r hr hw=> ?_,λ _ h=>absurd h v6,λ _ h=>absurd h v6,λ _ h=>absurd h v6,λ _ h=>absurd h v6,U2⟩,λ _=>nw a⟩
              rcases Gg hr with e | e
              . exact .inl e
              . exact .inr ⟨r,e,Z,hw⟩
  . rw [ZV b]; exact⟨wm t m,λ e=>absurd (show (21:Int)=0 from e) f6⟩
theorem IQ {m:List aN} (h:jE m) {t:Nat} {x:aF} {s e:Int} {g d:List Nat} {r:aZ} (hr:iP (aZ.q (O m)) t x=(s,g,d,e,r)):
    Sf t m r.a.a g d/\(e=0->∀ r ∈ m,r.a=t->r.f=J):=by
  have a:=Ho h t x
  rw [wO h] at hr
  have b:g=_:=(ZJ (λ q=>q.2.1) hr).symm
  have c:d=_:=(ZJ (λ q=>q.2.2.1) hr).symm
  have f:e=_:=(ZJ (λ q=>q.2.2.2.1) hr).symm
  have i:r=_:=(ZJ (λ q=>q.2.2.2.2) hr).symm
  rw [b,c,f,i]
  exact a
theorem Ei {m:List aN} (h:jE m) {t:Nat} {g d:List Nat} {r:aZ} (hr:iT (aZ.q (O m)) t=(g,d,r)):Sf t m r.a.a g d/\∀ n,n ∈ g\/n ∈ d->n≠t:=by
  unfold iT at hr
  rw [bG,bG,rD h.up,tq] at hr
  have b:g=_:=(ZJ (λ q=>q.1) hr).symm
  have c:d=_:=(ZJ (λ q=>q.2.1) hr).symm
  have f:r=_:=(ZJ (λ q=>q.2.2) hr).symm
  have hf:Fit (but t m):=h.fit.filter _
  have i:Se (but t m) (but t m) [] []:=⟨λ r hr hw=>⟨r,hr,Z,hw⟩,λ _ h=>absurd h v6,λ _ h=>absurd h v6,λ _ h=>absurd h v6,λ _ h=>absurd h v6,U2⟩
  have a:Sf t (but t m) r.a.a g d:=by rw [b,c,f]; exact(xZ hf i).sf
  have up:∀ n,(∃ s ∈ but t m,s.a=n/\s.f=Zk)->(∃ s ∈ m,s.a=n/\s.f=Zk)/\n≠t:=λ n ⟨s,hs,e,w⟩=>by
    obtain⟨j,k2⟩:=T2.1 hs
    exact⟨⟨s,j,e,w⟩,by rw [<- e]; exact of_decide_eq_true k2⟩
  refine⟨⟨λ r hr hw=> ?_,λ n hn=>(up n (a.f n hn)).1,λ n hn=>(up n (a.a n hn)).1,a.b,a.e,a.g⟩,λ n hn=> ?_⟩
  . rcases a.wt r hr hw with e | e
    . exact .inl e
    . exact .inr (up _ e).1
  . rcases hn with e | e
    . exact(up n (a.f n e)).2
    . exact(up n (a.a n e)).2
structure Li (line:List dC) (rs:List aN):Prop where q::
  dead:∀ f ∈ line,f.e=Zk->∀ r ∈ rs,r.a≠f.a
  a:∀ f ∈ line,f.e=J->∀ r ∈ rs,r.a=f.a->r.f=J
  FQ:line.Pairwise λ a b=>a.a≠b.a
theorem x8 (rs:List aN):Li [] rs:=⟨λ _ h=>absurd h v6,λ _ h=>absurd h v6,List.Pairwise.nil⟩
theorem Li.tail {f:dC} {l:List dC} {rs:List aN} (h:Li (f::l) rs):Li l rs/\∀ q ∈ l,q.a≠f.a:=
  ⟨⟨λ q hq=>h.dead q (.tail _ hq),λ q hq=>h.a q (.tail _ hq),(N7.1 h.FQ).2⟩,λ q hq=>((N7.1 h.FQ).1 q hq).symm⟩
theorem Li.step {line:List dC} {rs rs':List aN} {g d:List Nat} {k:Nat} (h:Li line rs) (hk:∀ f ∈ line,f.a≠k) (hin:∀ q ∈ rs',q.a=k\/∃ s ∈ rs,s.a=q.a) (hs:Sf k rs rs' g d):
    Li ((line++d.map λ n=>dC.q n Zk)++g.map λ n=>dC.q n J) rs' where
  dead:=λ f hf hd r hr e=>by
    rcases T1.1 hf with i | i
    . rcases T1.1 i with a | a
      . rcases hin r hr with c | ⟨s,b,c⟩
        . exact hk f a (by rw [<- e,c])
        . exact h.dead f a hd s b (by rw [c,e])
      . obtain⟨n,hn,rfl⟩:=T6.1 a
        exact hs.b n hn r hr e
    . obtain⟨n,hn,rfl⟩:=T6.1 i
      cases hd
  a:=λ f hf hd r hr e=>by
    rcases T1.1 hf with i | i
    . rcases T1.1 i with a | a
      . cases hw:r.f with
        | false=>rfl
        | true=>
          rcases hs.wt r hr hw with c | ⟨s,b,c,j⟩
          . exact absurd (by rw [<- e,c]) (hk f a)
          . have:=h.a f a hd s b (by rw [c,e])
            rw [j] at this; cases this
      . obtain⟨n,hn,rfl⟩:=T6.1 a
        cases hd
    . obtain⟨n,hn,rfl⟩:=T6.1 i
      exact hs.e n hn r hr e
  FQ:=by
    obtain⟨o,l,p⟩:=u7.1 hs.g
    have old:∀ f ∈ line, ∀ n,(∃ s ∈ rs,s.a=n/\s.f=Zk)->f.a≠n:=λ f hf n ⟨s,b,e,hw⟩ c=>by
      cases hd:f.e with
      | true=>exact h.dead f hf hd s b (by rw [e,c])
      | false=>have:=h.a f hf hd s b (by rw [e,c]); rw [hw] at this; cases this
    refine T0.2 ⟨T0.2 ⟨h.FQ,T5.2 l,λ f hf q hq=> ?_⟩,T5.2 o,λ f hf q hq=> ?_⟩
    . obtain⟨n,hn,rfl⟩:=T6.1 hq
      exact old f hf n (hs.a n hn)
    . obtain⟨n,hn,rfl⟩:=T6.1 hq
      rcases T1.1 hf with a | a
      . exact old f a n (hs.f n hn)
      . obtain⟨l,m,rfl⟩:=T6.1 a
        exact(p n hn l m).symm
open Int renaming toNat_natCast->O2
open List renaming filter_append->U5,filter_eq_self->U3,getElem?_eq_some_iff->p0,length_map->q7,map_cons->s8,mem_append_left->q6,mem_cons->u5,mem_iff_getElem?->O1,mem_of_mem_drop->U6,mem_of_mem_take->M2,sum_cons->Q0,take_append_drop->s1,take_left'->u3
open Nat renaming le_refl->s0,le_succ->U7,ne_of_gt->U4,succ_le_succ->U8
theorem Jm (p:bK) (g:List Nat):∀ (d:List Nat) (l:List dC),iU p g d l=l++d.map λ n=>dC.q n Zk
  | [],l=>by simp [iU]
  | x::d,l=>by rw [iU,Jm p g d]; simp
theorem Jn (p:bK):∀ (g:List Nat) (l:List dC),iV p g l=l++g.map λ n=>dC.q n J
  | [],l=>by simp [iV]
  | x::g,l=>by rw [iV,Jn p g]; simp
theorem tu (p:bK) (g d:List Nat):lL p g d=bK.q p.a (O ((p.b.a++d.map λ n=>dC.q n Zk)++g.map λ n=>dC.q n J)):=by
  unfold lL
  simp only [bG,Jm,Jn]
def qM (k:Nat) (l:List bA):List bA:=l.filter λ w=>decide (w.a≠k)
theorem zU (m:aA) (k:Nat):bX m k=bJ m.b.a k:=Z
theorem hfind (m:aA) (k:Nat):dX m k=bH m.a.a.a k:=Z
theorem qo {m:aA} (hs:tL m.b.a) (k:Nat):dU m k=aA.q m.a (O (qM k m.b.a)):=by
  unfold dU
  rw [bG,zU]
  unfold qM
  rcases tN hs k with ⟨a,p,q,b,hp,ha,hq,h⟩ | ⟨a,q,b,ha,hq,h⟩
  . rw [h,ZK Z]
    simp only [O2]
    have e:t8 (X a) m.b.a=a:=by rw [b]; exact u3 Z
    have f:r6 (X a+1) m.b.a=q:=by rw [b]; simp
    have c:a.filter (λ w=>decide (w.a≠k))=a:=U3.2 λ r hr=>decide_eq_true (U1 (ha r hr))
    have d:q.filter (λ w=>decide (w.a≠k))=q:=U3.2 λ r hr=>decide_eq_true (U4 (hq r hr))
    rw [e,f,b,U5,List.filter_cons_of_neg (by simp [hp]),c,d]
  . rw [h,ZV i7]
    have c:a.filter (λ w=>decide (w.a≠k))=a:=U3.2 λ r hr=>decide_eq_true (U1 (ha r hr))
    have d:q.filter (λ w=>decide (w.a≠k))=q:=U3.2 λ r hr=>decide_eq_true (U4 (hq r hr))
    have g:m.b.a.filter (λ w=>decide (w.a≠k))=m.b.a:=by rw [b,U5,c,d]
    rw [g]
def sg (ws:List bA):Nat:=(ws.map λ w=>U ((X w.e.a:Int) - w.b)).sum
def jN (line:List dC) (ws:List bA) (rs:List aN):Nat:=2 *sg ws+Wt rs+X line
theorem yc (p:bA->Bool):∀ l:List bA,sg (l.filter p)<=sg l
  | []=>s0 _
  | a::l=>by
    have ih:=yc p l
    rw [List.filter_cons]
    unfold sg at ih ⊢
    by_cases h:p a=Zk
    . rw [ZK h]; simp only [s8,Q0]; omega
    . rw [ZV h]; simp only [s8,Q0]; omega
theorem zV (a b:List bA):sg (a++b)=sg a+sg b:=by unfold sg; rw [List.map_append,List.sum_append]
theorem yz (a:bA) (b:List bA):sg (a::b)=U ((X a.e.a:Int) - a.b)+sg b:=by unfold sg; rw [s8,Q0]
theorem tQ {α:Type} {l:List α} {i:Nat} {x:α} (hx:l[i]? =Zw x):l=t8 i l++x::r6 (i+1) l/\X (t8 i l)=i:=by
  have h:=(p0.1 hx).1
  refine⟨?_,by rw [o0]; omega⟩
  conv=>lhs; rw [<- s1 i l]
  rw [drop_at hx]
theorem Fe {α:Type} {l:List α} {i:Nat} {x y:α} (hx:l[i]? =Zw x):N0 l i y=t8 i l++y::r6 (i+1) l:=by
  have h:=(p0.1 hx).1
  rw [List.set_eq_take_append_cons_drop,ZK h]
theorem Ff {ws:List bA} {i:Nat} {x y:bA} (hx:ws[i]? =Zw x) (hl:y.e=x.e) (hy:y.b=x.b+1):sg (N0 ws i y)+(if x.b < (X x.e.a:Int) then 1 else 0)=sg ws:=by
  have a:=(tQ hx).1
  rw [Fe hx]
  conv=>rhs; rw [a]
  rw [zV,zV,yz,yz,hl,hy]
  split <;> omega
theorem Fg {ws:List bA} (i:Nat):sg (t8 i ws++r6 (i+1) ws)<=sg ws:=by
  have h:sg ws=sg (t8 i ws)+sg (r6 i ws):=by rw [<- zV,s1]
  have a:sg (r6 (i+1) ws)<=sg (r6 i ws):=by
    cases e:ws[i]? with
    | none=>have:=List.getElem?_eq_none_iff.1 e; rw [List.drop_eq_nil_of_le Y]; exact Nb _
    | some x=>rw [drop_at e,yz]; omega
  rw [zV]; omega
def Tx (ws:List bA) (hs:List df) (n:Nat):Prop:=(∃ w ∈ ws,w.a=n)\/∃ h ∈ hs,h.f=n
theorem Tk.gone {ws:List bA} {hs:List df} {rs rs':List aN} {k:Nat} (h:Tk ws hs rs) (hr:∀ q ∈ rs',q.a≠k/\∃ s ∈ rs,s.a=q.a) (hs':jE rs'):Tk (qM k ws) hs rs' where
  a:=h.a.filter _
  hu:=h.hu
  e:=λ w hw z hz=>h.e w (T2.1 hw).1 z hz
  n:=by have:=h.n; have:=List.length_filter_le (λ w:bA=>decide (w.a≠k)) ws; unfold qM; omega
  g:=λ w hw=>h.g w (T2.1 hw).1
  b:=h.b
  snd:=hs'
  f:=λ q hq=>by
    obtain⟨b,s,c,a⟩:=hr q hq
    rcases h.f s c with ⟨w,hw,e⟩ | ⟨z,hz,e⟩
    . exact .inl ⟨w,T2.2 ⟨hw,decide_eq_true (by rw [e,a]; exact b)⟩,by rw [e,a]⟩
    . exact .inr ⟨z,hz,by rw [e,a]⟩
theorem Hq {hs:List df} (hu:vY hs) {z:df} {j:Int} {b:Bool} (hf:bH hs z.f=(j,b)) (hn:∀ h ∈ hs,h.f≠z.f):vY (t8 (U j) hs++(z::r6 (U j) hs)):=by
  rcases qm hu z.f with ⟨a,p,q,c,hp,ha,hq,h⟩ | ⟨a,q,c,ha,hq,h⟩
  . exact absurd hp (hn p (by rw [c]; simp))
  . rw [h] at hf
    have d:j=(X a:Int):=(ZJ Prod.fst hf).symm
    rw [d,O2,c,u3 Z,List.drop_left' Z]
    rw [c] at hu
    obtain⟨f,g,i⟩:=T0.1 hu
    exact T0.2 ⟨f,N7.2 ⟨hq,g⟩,λ r hr s hs=>by
      rcases u5.1 hs with e | e
      . rw [e]; exact ha r hr
      . exact i r hr s e⟩
theorem lX {α:Type} {l:List α} {i:Nat} {z x:α}:x ∈ t8 i l++(z::r6 i l)↔x=z\/x ∈ l:=by
  rw [T1,u5]
  constructor
  . rintro (h | h | h)
    . exact .inr (M2 h)
    . exact .inl h
    . exact .inr (U6 h)
  . rintro (h | h)
    . exact .inr (.inl h)
    . rw [<- s1 i l] at h
      rcases T1.1 h with h | h
      . exact .inl h
      . exact .inr (.inr h)
theorem Tk.hold {ws:List bA} {hs:List df} {rs:List aN} {i:Nat} {x:bA} {j:Int} {b:Bool} (h:Tk ws hs rs) (hx:ws[i]? =Zw x) (hf:bH hs x.a=(j,b)):
    Tk (t8 i ws++r6 (i+1) ws) (t8 (U j) hs++((df.q x.a (O x.f.a))::r6 (U j) hs)) rs where
  a:=by
    have d:=h.a
    rw [(tQ hx).1] at d
    obtain⟨a,b,c⟩:=T0.1 d
    exact T0.2 ⟨a,(N7.1 b).2,λ r hr s hs=>c r hr s (.tail _ hs)⟩
  hu:=Hq (z:=df.q x.a (O x.f.a)) h.hu hf λ z hz=>(h.e x (E1 hx) z hz).symm
  e:=λ w hw z hz=>by
    have d:=h.a
    rw [(tQ hx).1] at d
    obtain⟨a,b,c⟩:=T0.1 d
    have hne:w.a≠x.a:=by
      rcases T1.1 hw with e | e
      . exact U1 (c w e x b3)
      . exact U4 ((N7.1 b).1 w e)
    have hm:w ∈ ws:=by
      rcases T1.1 hw with e | e
      . exact M2 e
      . exact U6 e
    rcases lX.1 hz with e | e
    . rw [e]; exact hne
    . exact h.e w hm z e
  n:=by
    have:=h.n
    have d:=(p0.1 hx).1
    simp only [o2,q5,o0,List.length_drop]
    omega
  g:=λ w hw=>h.g w (by
    rcases T1.1 hw with e | e
    . exact M2 e
    . exact U6 e)
  b:=λ z hz=>by
    rcases lX.1 hz with e | e
    . rw [e]; exact(h.wat hx).2.1
    . exact h.b z e
  snd:=h.snd
  f:=λ r hr=>by
    rcases h.f r hr with ⟨w,hw,e⟩ | ⟨z,hz,e⟩
    . rw [(tQ hx).1] at hw
      rcases T1.1 hw with f | f
      . exact .inl ⟨w,q6 _ f,e⟩
      . rcases u5.1 f with g | g
        . exact .inr ⟨_,lX.2 (.inl Z),by rw [<- e,g]⟩
        . exact .inl ⟨w,List.mem_append_right _ g,e⟩
    . exact .inr ⟨z,lX.2 (.inr hz),e⟩
theorem Fp {p:bK} {z:df} {m:aA} {s:StoreT} {e:Int} {t:bK} (h:fV p z m s=(e,t)):t.b=p.b/\t.a.b=p.a.b/\t.a.e=p.a.e/\X t.a.a.a<=X p.a.a.a+1:=by
  unfold fV at h
  rw [bG] at h
  split at h
  . obtain⟨_,rfl⟩:=fK h; exact⟨rfl,rfl,rfl,by simp⟩
  . obtain⟨_,rfl⟩:=fK h; exact⟨rfl,rfl,rfl,U7 _⟩
theorem Ch {p:bK} {k:Nat} {m:aA} {tb:aZ} (hs:jE tb.a.a) {t:bK} {tb':aZ} (h:eO p k m tb=(t,tb')):
    t.a=p.a/\(∀ q ∈ tb'.a.a,q.a≠k/\∃ s ∈ tb.a.a,s.a=q.a)/\jE tb'.a.a/\X t.b.a+Wt tb'.a.a<=X p.b.a+Wt tb.a.a/\
      (Li p.b.a tb.a.a->(∀ f ∈ p.b.a,f.a≠k)->Li t.b.a tb'.a.a):=by
  unfold eO at h
  rw [bG,bG] at h
  cases hr:iT tb k with
  | mk g q=>cases q with
    | mk d e=>
      rw [hr,tu] at h
      obtain⟨rfl,rfl⟩:=fK h
      have c:=CL (m:=tb.a.a) hs hr
      refine⟨Z,c.1,Bj hs hr, ?_,λ a b=>a.step b (λ q hq=> .inr (c.1 q hq).2) (Ei hs hr).1⟩
      simp only [o2,q7]
      have:=c.2
      omega
structure Gn (p:bK) (m:aA) (tb:aZ) (t:bK) (m':aA) (tb':aZ):Prop where q::
  tk:Tk m'.b.a m'.a.a.a tb'.a.a
  a:∀ n,Tx m'.b.a m'.a.a.a n->Tx m.b.a m.a.a.a n
  out:X t.a.a.a<=X p.a.a.a+1
  wr:t.a.b=p.a.b
  st:m'.a= { m.a with a:=m'.a.a }
  b:Li t.b.a tb'.a.a
  gt:Gt m'.b.a
theorem Fq {ws:List bA} {hs:List df} {i:Nat} {x y:bA} (hx:ws[i]? =Zw x) (ht:y.a=x.a) (n:Nat) (h:Tx (N0 ws i y) hs n):Tx ws hs n:=by
  rcases h with h | h
  . rw [zS,yx hx ht, <- zS] at h; exact .inl h
  . exact .inr h
theorem go_loop (p:bK) (k:Nat) (m:aA) (s:StoreT) (r:Int):∀ (q:Nat) (l:List dC) (rs:List aN) (ws:List bA),Tk ws m.a.a.a rs->vZ ws (U r) k->gm ws (U r) < q->Li l rs->(∀ f ∈ l,f.a≠k)->Gx k ws->
    (∀ n,Tx ws m.a.a.a n->Tx m.b.a m.a.a.a n)->
    (∀ l' rs' ws' x,fZ p k m s r q l rs ws= .inl (l',rs',ws',x)->Tk ws' m.a.a.a rs'/\ws'[U r]? =Zw x/\jN l' ws' rs'<=jN l ws rs/\(∀ n,Tx ws' m.a.a.a n->Tx m.b.a m.a.a.a n)/\Li l' rs'/\Gx k ws'/\x.a=k)/\
    (∀ e t m' tb',fZ p k m s r q l rs ws= .inr (e,t,m',tb')->Gn p m (aZ.q (O rs)) t m' tb'/\0 < gm ws (U r)/\jN t.b.a m'.b.a tb'.a.a<=jN l ws rs+1):=by
  intro q
  induction q with
  | zero=>intro l rs ws _ _ h; omega
  | succ q ih=>
    intro l rs ws hk hw hq hli hlk hgx htx
    obtain⟨x,hx,hxt⟩:=id hw
    have hgm:=zQ hx
    obtain⟨⟨g0,g9⟩,g1,g2⟩:=hk.wat hx
    rw [fZ]
    simp only [bG,bu hx]
    by_cases v:x.b < ((X x.e.a:Nat):Int)
    . rw [ZK v]
      have hgt:Gt ws:=λ w z=>by
        by_cases e:w.a=k
        . obtain⟨j,hj⟩:=O1.1 z
          have A:=tO (m:=aA.q m.a (O ws)) hk.a ⟨w,hj,e⟩
          have u:=tO (m:=aA.q m.a (O ws)) hk.a hw
          rw [A] at u
          have H:j=U r:=Int.ofNat.inj (ZJ Prod.fst u)
          rw [H,hx] at hj
          cases hj
          exact v
        . exact hgx w z e
      have hpos:0 < gm ws (U r):=by rw [hgm]; omega
      cases ha:iP (aZ.q (O rs)) k (List.getD x.e.a (U x.b) ZZ) with
      | mk sv I=>cases I with
        | mk g Z7=>cases Z7 with
          | mk d K=>cases K with
            | mk e tb=>
              have b:=hk.ask hw ha
              have hpsi:=(AC hk.snd ha).2
              have hsf:=IQ hk.snd ha
              have a:=hli.step hlk (AC hk.snd ha).1 hsf.1
              simp only [tu]
              have hlen:X ((l++d.map λ n=>dC.q n Zk)++g.map λ n=>dC.q n J)=X l+X d+X g:=by simp only [o2,q7]
              by_cases C:e=0
              . rw [ZK C]
                have i:∀ f ∈ (l++d.map λ n=>dC.q n Zk)++g.map λ n=>dC.q n J,f.a≠k:=λ f hf o=>by
                  have hno:∀ n,(∃ s ∈ rs,s.a=n/\s.f=Zk)->n≠k:=λ n ⟨s,hs,L,D⟩ M=>by
                    have:=hsf.2 C s hs (by rw [L,M]); rw [D] at this; cases this
                  rcases T1.1 hf with A | A
                  . rcases T1.1 A with u | u
                    . exact hlk f u o
                    . obtain⟨n,hn,rfl⟩:=List.mem_map.1 u
                      exact hno n (hsf.1.a n hn) o
                  . obtain⟨n,hn,rfl⟩:=List.mem_map.1 A
                    exact hno n (hsf.1.f n hn) o
                by_cases B:sv=2
                . rw [ZK B]
                  refine⟨λ _ _ _ _ h=>(by cases h),λ o t m' tb' h=> ?_⟩
                  obtain⟨_,rfl,rfl,rfl⟩:=fO (Sum.inr.inj h)
                  refine⟨⟨b,htx,U7 _,Z,Z,a,hgt⟩,hpos, ?_⟩
                  rw [ZK B] at hpsi
                  unfold jN
                  simp only [hlen]
                  omega
                . rw [ZV B]
                  rw [ZV B] at hpsi
                  by_cases G:sv=3
                  . rw [ZK G]
                    refine⟨λ _ _ _ _ h=>(by cases h),λ o t m' tb' h=> ?_⟩
                    unfold iE at h
                    rw [bG,qo (m:=aA.q m.a (O ws)) hk.a] at h
                    simp only at h
                    cases hr:eO (bK.q (dL.q (O (p.a.a.a++ [(dK.q 4 m.a.l 0 0 5 0 0 0 k 0 0 0 0 0 0 J (au.q [] []) (O []) (O []) (O []))])) (O p.a.b.a) p.a.e) (O ((l++d.map λ n=>dC.q n Zk)++g.map λ n=>dC.q n J))) k (aA.q m.a (O (qM k ws))) tb with
                    | mk Z5 E=>
                      rw [hr] at h
                      obtain⟨_,rfl,rfl,rfl⟩:=fO (Sum.inr.inj h)
                      obtain⟨r1,Z6,P,Q,R⟩:=Ch b.snd hr
                      refine⟨⟨b.gone Z6 P,λ n hn=>htx n ?_,by simp,Z,Z,R a i,λ w hw=>hgt w (T2.1 hw).1⟩,hpos, ?_⟩
                      . rcases hn with ⟨w,hw,e⟩ | hn
                        . exact .inl ⟨w,(T2.1 hw).1,e⟩
                        . exact .inr hn
                      . have h5:=yc (λ w=>decide (w.a≠k)) ws
                        simp only [hlen] at Q
                        unfold jN
                        show 2 *sg (qM k ws)+Wt E.a.a+X Z5.b.a<=_
                        unfold qM
                        omega
                  . rw [ZV G]
                    have hbump:=b.bump (y:=bA.q x.a (O x.f.a) (O x.e.a) (x.b+1)) hx Z Z Z (show (0:Int)<=x.b+1/\x.b+1<=((X x.e.a:Nat):Int) by omega)
                    have S:=zR (y:=bA.q x.a (O x.f.a) (O x.e.a) (x.b+1)) hx v Z Z
                    have F:=Ff (y:=bA.q x.a (O x.f.a) (O x.e.a) (x.b+1)) hx Z Z
                    rw [ZK v] at F
                    have Z8:jN ((l++d.map λ n=>dC.q n Zk)++g.map λ n=>dC.q n J) (N0 ws (U r) (bA.q x.a (O x.f.a) (O x.e.a) (x.b+1))) tb.a.a+2<=jN l ws rs:=by
                      unfold jN
                      rw [hlen]
                      omega
                    have hi:=ih ((l++d.map λ n=>dC.q n Zk)++g.map λ n=>dC.q n J) tb.a.a (N0 ws (U r) (bA.q x.a (O x.f.a) (O x.e.a) (x.b+1))) hbump (hw.set hx Z) Y a i (hgx.set hxt) (λ n hn=>htx n (Fq (y:=bA.q x.a (O x.f.a) (O x.e.a) (x.b+1)) hx Z n hn))
                    refine⟨λ l' rs' ws' x' h=> ?_,λ o t m' tb' h=> ?_⟩
                    . obtain⟨c,Z4,Z3,Z9,Z1,Z2,Z0⟩:=hi.1 l' rs' ws' x' h
                      exact⟨c,Z4,Y,Z9,Z1,Z2,Z0⟩
                    . obtain⟨c,_,Z3⟩:=hi.2 o t m' tb' h
                      exact⟨⟨c.tk,c.a,c.out,c.wr,c.st,c.b,c.gt⟩,hpos,Y⟩
              . rw [ZV C]
                refine⟨λ _ _ _ _ h=>(by cases h),λ o t m' tb' h=> ?_⟩
                obtain⟨_,rfl,rfl,rfl⟩:=fO (Sum.inr.inj h)
                refine⟨⟨b,htx,U7 _,Z,Z,⟨λ f hf=>a.dead f (q6 _ (q6 _ hf)),λ f hf=>a.a f (q6 _ (q6 _ hf)),hli.FQ⟩,hgt⟩,hpos, ?_⟩
                unfold jN
                show 2 *sg ws+Wt tb.a.a+X l<=_
                split at hpsi <;> omega
    . rw [ZV v]
      refine⟨λ l' rs' ws' x' h=> ?_,λ _ _ _ _ h=>(by cases h)⟩
      obtain⟨rfl,rfl,rfl,rfl⟩:=fO (Sum.inl.inj h)
      exact⟨hk,hx,s0 _,htx,hli,hgx,hxt⟩
theorem rF {p:bK} {k:Nat} {m:aA} {s:StoreT} {tb:aZ} (hk:Tk m.b.a m.a.a.a tb.a.a) (hli:Li p.b.a tb.a.a) (hlk:∀ f ∈ p.b.a,f.a≠k) (hgx:Gx k m.b.a) {e:Int} {t:bK} {m':aA} {tb':aZ} (h:fo p k m s tb=(e,t,m',tb')):
    Gn p m tb t m' tb'/\(jN t.b.a m'.b.a tb'.a.a<=jN p.b.a m.b.a tb.a.a+1)/\((∀ i,vZ m.b.a i k->gm m.b.a i=0)->jN t.b.a m'.b.a tb'.a.a<=jN p.b.a m.b.a tb.a.a):=by
  unfold fo at h
  rw [bG] at h
  cases hf:bX m k with
  | mk i b=>
    rw [hf] at h
    cases b with
    | false=>
      rw [ZV i7] at h
      obtain⟨_,rfl,rfl,rfl⟩:=fO h
      refine⟨⟨hk,λ _ h=>h,U7 _,Z,Z,hli,λ w hw=>hgx w hw λ d=> ?_⟩,U7 _,λ _=>s0 _⟩
      obtain⟨j,hj⟩:=O1.1 hw
      rw [tO hk.a ⟨w,hj,d⟩] at hf
      exact Bool.noConfusion (show Zk=J from ZJ Prod.snd hf)
    | true=>
      rw [ZK Z] at h
      have hw:=nU hk.a hf
      obtain⟨hl,hr⟩:=go_loop p k m s i (gm m.b.a (U i)+1) p.b.a tb.a.a m.b.a hk hw Y hli hlk hgx (λ _ h=>h)
      cases hg:fZ p k m s i (gm m.b.a (U i)+1) p.b.a tb.a.a m.b.a with
      | inr z=>
        obtain⟨d,D,E,u⟩:=z
        simp only at h
        rw [hg] at h
        obtain⟨rfl,rfl,rfl,rfl⟩:=fO (show (d,D,E,u)=(e,t,m',tb') from h)
        obtain⟨g,q,r⟩:=hr _ _ _ _ hg
        exact⟨⟨g.tk,g.a,g.out,g.wr,g.st,g.b,g.gt⟩,r,λ F=>by have:=F _ hw; omega⟩
      | inl z=>
        obtain⟨y,l,o,x⟩:=z
        simp only at h
        rw [hg] at h
        obtain⟨g,q,r,G,H,A,Z7⟩:=hl _ _ _ _ hg
        simp only [lp,bG,hfind] at h
        cases hj:bH m.a.a.a x.a with
        | mk j K=>
          rw [hj] at h
          have hh:=g.hold q hj
          generalize hv:fV _ _ _ _=v at h
          obtain⟨B,L⟩:=v
          obtain⟨M,Z5,Z6,I⟩:=Fp hv
          obtain⟨_,rfl,rfl,rfl⟩:=fO h
          refine⟨⟨hh,λ n hn=>G n ?_,I,Z,Z,H,λ w hw=> ?_⟩, ?_,λ _=> ?_⟩
          . rcases hn with ⟨w,hw,e⟩ | ⟨z,hz,e⟩
            . refine .inl ⟨w, ?_,e⟩
              rcases T1.1 hw with d | d
              . exact M2 d
              . exact U6 d
            . rcases lX.1 hz with d | d
              . exact .inl ⟨x,E1 q,by rw [<- e,d]⟩
              . exact .inr ⟨z,d,e⟩
          . have C:=g.a
            rw [(tQ q).1] at C
            obtain⟨a,b,c⟩:=T0.1 C
            rcases T1.1 hw with d | d
            . exact A w (M2 d) λ B=>by have:=c w d x b3; omega
            . exact A w (U6 d) λ B=>by have:=(N7.1 b).1 w d; omega
          . have:=Fg (ws:=o) (U i)
            unfold jN at r ⊢
            show 2 *sg (t8 _ _++r6 _ _)+Wt l+X y<=_
            omega
          . have:=Fg (ws:=o) (U i)
            unfold jN at r ⊢
            show 2 *sg (t8 _ _++r6 _ _)+Wt l+X y<=_
            omega
theorem drop1 {α:Type} {l:List α} {f:α} (h:l[0]? =Zw f):l=f::r6 1 l:=by
  cases l with
  | nil=>cases h
  | cons a l=>cases h; rfl
theorem wP {line:List dC} {f:dC} {m:aA} {hs:List df} {rs:List aN} {p t:bK} {m':aA} (hk:Tk m.b.a hs rs) (hg:Gt m.b.a) (hli:Li line rs) (hf:line[0]? =Zw f) (hd:f.e=Zk) (h:iE p f.a m=(t,m')):
    Tk m'.b.a hs rs/\Gt m'.b.a/\Li (r6 1 line) rs/\jN (r6 1 line) m'.b.a rs+1<=jN line m.b.a rs:=by
  have e:=drop1 hf
  rw [e] at hli
  unfold iE at h
  rw [bG,qo hk.a] at h
  obtain⟨_,rfl⟩:=fK h
  refine⟨hk.gone (λ q hq=>⟨hli.dead f b3 hd q hq,q,hq,Z⟩) hk.snd,λ w hw=>hg w (T2.1 hw).1,hli.tail.1, ?_⟩
  have a:=yc (λ w=>decide (w.a≠f.a)) m.b.a
  conv=>rhs; rw [e]
  unfold jN
  show 2 *sg (qM f.a m.b.a)+_+_+1<=_
  unfold qM
  simp only [q5]
  omega
theorem yA {line:List dC} {f:dC} {m c:aA} {tb:aZ} {i:Int} {x:bA} {p:bK} {s:StoreT} {e:Int} {t:bK} {m':aA} {tb':aZ} (hk:Tk m.b.a m.a.a.a tb.a.a) (hg:Gt m.b.a) (hli:Li line tb.a.a) (hf:line[0]? =Zw f)
    (hi:bX m f.a=(i,Zk)) (hx:m.b.a[U i]? =Zw x) (hp:p.b.a=r6 1 line) (hm:c=aA.q m.a (O (N0 m.b.a (U i) (bA.q x.a (O x.f.a) (O x.e.a) (x.b+1)))))
    (h:fo p f.a c s tb=(e,t,m',tb')):
    Tk m'.b.a m'.a.a.a tb'.a.a/\Gt m'.b.a/\Li t.b.a tb'.a.a/\jN t.b.a m'.b.a tb'.a.a+1<=jN line m.b.a tb.a.a/\X t.a.a.a<=X p.a.a.a+1:=by
  have d:=drop1 hf
  rw [d] at hli
  obtain⟨⟨j,k⟩,l,n⟩:=hk.wat hx
  have hgx:=hg.wat hx
  have hw:=nU hk.a hi
  obtain⟨y,hy,hyt⟩:=id hw
  rw [hx] at hy; cases hy
  subst hm
  have hb:=hk.bump (y:=bA.q x.a (O x.f.a) (O x.e.a) (x.b+1)) hx Z Z Z (show (0:Int)<=x.b+1/\x.b+1<=((X x.e.a:Nat):Int) by omega)
  have b:=Ff (y:=bA.q x.a (O x.f.a) (O x.e.a) (x.b+1)) hx Z Z
  rw [ZK hgx] at b
  obtain⟨a,g,_⟩:=rF (m:=aA.q m.a (O _)) hb (by rw [hp]; exact hli.tail.1) (by rw [hp]; exact hli.tail.2) ((hg.gx f.a).set hyt) h
  refine⟨a.tk,a.gt,a.b, ?_,a.out⟩
  conv=>rhs; rw [d]
  rw [hp] at g
  refine Nat.le_trans (U8 g) ?_
  unfold jN
  show 2 *sg (N0 _ _ _)+_+_+1+1<=_
  simp only [q5]
  omega
theorem yB {line:List dC} {f:dC} {m:aA} {tb:aZ} {i:Int} {b:Bool} {p:bK} {s:StoreT} {e:Int} {t:bK} {m':aA} {tb':aZ} (hk:Tk m.b.a m.a.a.a tb.a.a) (hg:Gt m.b.a) (hli:Li line tb.a.a) (hf:line[0]? =Zw f)
    (hi:bX m f.a=(i,b)) (hb: ¬ b=Zk) (hp:p.b.a=r6 1 line) (h:fo p f.a m s tb=(e,t,m',tb')):
    Tk m'.b.a m'.a.a.a tb'.a.a/\Gt m'.b.a/\Li t.b.a tb'.a.a/\jN t.b.a m'.b.a tb'.a.a+1<=jN line m.b.a tb.a.a/\X t.a.a.a<=X p.a.a.a+1:=by
  have c:=drop1 hf
  rw [c] at hli
  obtain⟨a,_,g⟩:=rF hk (by rw [hp]; exact hli.tail.1) (by rw [hp]; exact hli.tail.2) (hg.gx f.a) h
  have d:=g λ j hj=>by
    rw [tO hk.a hj] at hi
    exact absurd (ZJ Prod.snd hi).symm hb
  refine⟨a.tk,a.gt,a.b, ?_,a.out⟩
  conv=>rhs; rw [c]
  rw [hp] at d
  refine Nat.le_trans (U8 d) ?_
  unfold jN
  simp only [q5]
  omega
open _root_.Go.Proofs.Tryz renaming isAgg90->U9
section
open Go.RowKit
def fB (k:bK) (a:aA) (d:StoreT):Nat->List dK->List dC->List df->List bA->List aN->((List dK) × (List dC) × (List df) × (List bA) × (List aN)) ⊕ (Int × bK × aA × aZ)
  | 0,l,f,h,i,m=>Sum.inl ZZ
  | o+1,l,f,h,i,m=>if((X f:Nat):Int) > 0 then bnd (List.getD f 0 ZZ) λ g=>if g.e=Zk then bnd (iE (bK.q (dL.q (O l) (O k.a.b.a) k.a.e) (O (r6 1 f))) g.a (aA.q (bD.q a.a.l a.a.r a.a.t a.a.s a.a.g (O a.a.b.a) (O h) (O a.a.f.a) a.a.k a.a.u a.a.j a.a.e) (O i))) λ n=>fB k a d o n.1.a.a.a (r6 1 f) h n.2.b.a m else bnd (bX (aA.q (bD.q a.a.l a.a.r a.a.t a.a.s a.a.g (O a.a.b.a) (O h) (O a.a.f.a) a.a.k a.a.u a.a.j a.a.e) (O i)) g.a) λ j=>if j.2=Zk then bnd (List.getD i (U j.1) ZZ) λ e=>bnd (fo (bK.q (dL.q (O l) (O k.a.b.a) k.a.e) (O (r6 1 f))) g.a (aA.q (bD.q a.a.l a.a.r a.a.t a.a.s a.a.g (O a.a.b.a) (O h) (O a.a.f.a) a.a.k a.a.u a.a.j a.a.e) (O (N0 i (U j.1) (bA.q e.a (O e.f.a) (O e.e.a) (e.b+1))))) d (aZ.q (O m))) λ b=>if b.1=0 then fB k a d o b.2.1.a.a.a b.2.1.b.a b.2.2.1.a.a.a b.2.2.1.b.a b.2.2.2.a.a else Sum.inr (b.1,bK.q (dL.q (O b.2.1.a.a.a) (O k.a.b.a) k.a.e) (O b.2.1.b.a),aA.q (bD.q a.a.l a.a.r a.a.t a.a.s a.a.g (O a.a.b.a) (O b.2.2.1.a.a.a) (O a.a.f.a) a.a.k a.a.u a.a.j a.a.e) (O b.2.2.1.b.a),b.2.2.2) else bnd (fo (bK.q (dL.q (O l) (O k.a.b.a) k.a.e) (O (r6 1 f))) g.a (aA.q (bD.q a.a.l a.a.r a.a.t a.a.s a.a.g (O a.a.b.a) (O h) (O a.a.f.a) a.a.k a.a.u a.a.j a.a.e) (O i)) d (aZ.q (O m))) λ c=>if c.1=0 then fB k a d o c.2.1.a.a.a c.2.1.b.a c.2.2.1.a.a.a c.2.2.1.b.a c.2.2.2.a.a else Sum.inr (c.1,bK.q (dL.q (O c.2.1.a.a.a) (O k.a.b.a) k.a.e) (O c.2.1.b.a),aA.q (bD.q a.a.l a.a.r a.a.t a.a.s a.a.g (O a.a.b.a) (O c.2.2.1.a.a.a) (O a.a.f.a) a.a.k a.a.u a.a.j a.a.e) (O c.2.2.1.b.a),c.2.2.2) else Sum.inl (l,f,h,i,m)
def dQ (d:bK) (a:aA) (c:StoreT) (b:aZ):Int × bK × aA × aZ:=
 lp (fB d a c ((jN d.b.a a.b.a b.a.a)+1) d.a.a.a d.b.a a.a.a.a a.b.a b.a.a) λ sLrL=>(0,bK.q (dL.q (O sLrL.1) (O d.a.b.a) d.a.e) (O sLrL.2.1),aA.q (bD.q a.a.l a.a.r a.a.t a.a.s a.a.g (O a.a.b.a) (O sLrL.2.2.1) (O a.a.f.a) a.a.k a.a.u a.a.j a.a.e) (O sLrL.2.2.2.1),aZ.q (O sLrL.2.2.2.2))
theorem nZ (w D g0) (A:bK) (dE dG dz Z6 Z7 dI dN x) (a:aA) (B C aS aT aG E F aU aV aH j) (d:StoreT) (s r l) (t:aZ) (ak au S r0) (r1:bK) (r2:aA) (r3:aZ) (H:Own w D w [blk g0 [Zq (Zw ⟨x,0,Zv⟩), W dE (X A.a.a.a) dG, W Z6 (X A.a.b.a) Z7, V A.a.e, W dI (X A.b.a) dN] 92,row dE (X A.a.a.a) dG (q0 bU.J dz) 47 21,sepL (q0 Kg dz),jD dI (X A.b.a) dN (q0 dC.J A.b.a) 216 2,blk x (kB a B (X a.a.b.a) C aS (X a.a.a.a) aT E (X a.a.f.a) F a.a.k j aU (X a.b.a) aV l) 80,row aS (X a.a.a.a) aT (q0 bf.J aG) 60 2,sepL (q0 J9 aG),row aU (X a.b.a) aV (q0 aW.J aH) 99 4,sepL (q0 J5 aH),blk j [W s (X d.a.a) r] 27,blk l [W ak (X t.a.a) au] 114,row ak (X t.a.a) au (q0 aB.J S) 164 6,sepL (q0 J4 S)]) (dO:r7 bU.abs dz=A.a.a.a) (dR:Ro w D λ w'=>bP w' 6 Z6 (X A.a.b.a) (q0 aY.J A.a.b.a)) (jE:X A.a.b.a<=Z7/\X A.a.b.a<=9223372036854775807) (bz:r7 bf.abs aG=a.a.a.a) (bB:r7 aW.abs aH=a.b.a) (aI:Ro w D λ w'=>bP w' 2 s (X d.a.a) (q0 ay.J d.a.a)) (il:X d.a.a<=r/\X d.a.a<=9223372036854775807) (aJ:r7 aB.abs S=t.a.a) (lU:Tk a.b.a a.a.a.a t.a.a) (lV:Gt a.b.a) (lW:Li A.b.a t.a.a) (lX:X a.b.a+X a.a.a.a<=6) (lY:X t.a.a<=6) (lZ:X A.a.a.a+jN A.b.a a.b.a t.a.a<=80000/\X A.a.b.a<=1000/\X d.a.a<=4000) (hr:dQ A a d t=(r0,r1,r2,r3)):
    Calls Tryz.prog 84 #[vP g0 0] w (dM λ v w'=> ∃ dS dU bV dV dW dX dY bW dZ d9 bY ed ek bZ,v=vI r0/\Own w D w' [blk g0 [vP x 0, W dS (X r1.a.a.a) dU, W Z6 (X A.a.b.a) Z7, V A.a.e, W dV (X r1.b.a) dW] 92,row dS (X r1.a.a.a) dU (q0 bU.J bV) 47 21,sepL (q0 Kg bV),jD dV (X r1.b.a) dW (q0 dC.J r1.b.a) 216 2,blk x (kB a B (X a.a.b.a) C dX (X r2.a.a.a) dY E (X a.a.f.a) F a.a.k j dZ (X r2.b.a) d9 l) 80,row dX (X r2.a.a.a) dY (q0 bf.J bW) 60 2,sepL (q0 J9 bW),row dZ (X r2.b.a) d9 (q0 aW.J bY) 99 4,sepL (q0 J5 bY),blk j [W s (X d.a.a) r] 27,blk l [W ed (X r3.a.a) ek] 114,row ed (X r3.a.a) ek (q0 aB.J bZ) 164 6,sepL (q0 J4 bZ)]/\(r7 bU.abs bV=r1.a.a.a)/\(r7 bf.abs bW=r2.a.a.a)/\(r7 aW.abs bY=r2.b.a)/\(r7 aB.abs bZ=r3.a.a)):=by
 have jA:=bg dO
 have iL:=bg bz
 have iM:=bg bB
 have fQ:=bg aJ
 have jH:=zr 1 H
 have jI:=H.rowCQ (i:=3) Z
 have iO:=zr 5 H
 have iP:=zr 7 H
 refine cb Tryz.func84 ?_
 refine sr (An Z (JG (bo ?_)))
 have jJ:=H.pf [0,4,9,10]
 obtain⟨jK,bC⟩:=Iq λ Z9 (Z1:Nat) Z8 I av (Z2:Nat) g P (Q:Nat) Z4 z G (Z5:Nat) L h Z0 (aa:Nat) Z3 u (eu:Nat) w'=>Own w D w' [blk g0 [vP x 0, W Z9 (X I) Z1, W Z6 (X A.a.b.a) Z7, V A.a.e, W av (X g) Z2] 92,blk x (kB a B (X a.a.b.a) C P (X z) Q E (X a.a.f.a) F a.a.k j G (X h) Z5 l) 80,blk j [W s (X d.a.a) r] 27,blk l [W Z0 (X u) aa] 114,row Z9 (X I) Z1 (q0 bU.J Z8) 47 21,sepL (q0 Kg Z8),jD av (X g) Z2 (q0 dC.J g) 216 2,row P (X z) Q (q0 bf.J Z4) 60 2,sepL (q0 J9 Z4),row G (X h) Z5 (q0 aW.J L) 99 4,sepL (q0 J5 L),row Z0 (X u) aa (q0 aB.J Z3) 164 6,sepL (q0 J4 Z3)]/\r7 bU.abs Z8=I/\r7 bf.abs Z4=z/\r7 aW.abs L=h/\r7 aB.abs Z3=u/\Gt h/\Tk h z u/\Li g u/\X I+jN g h u<=80000/\jN g h u < eu/\fB A a d ((jN A.b.a a.b.a t.a.a)+1) A.a.a.a A.b.a a.a.a.a a.b.a t.a.a=fB A a d eu I g z h u
 refine Wp.loop (λ i:(Option Addr) × Nat × (List bU) × (List dK) × (Option Addr) × Nat × (List dC) × (Option Addr) × Nat × (List bf) × (List df) × (Option Addr) × Nat × (List aW) × (List bA) × (Option Addr) × Nat × (List aB) × (List aN) × Nat=> [(2,vI 0),(0,vP g0 0)]) jK (λ i=>i.2.2.2.2.2.2.2.2.2.2.2.2.2.2.2.2.2.2.2) (dE,dG,dz,A.a.a.a,dI,dN,A.b.a,aS,aT,aG,a.a.a.a,aU,aV,aH,a.b.a,ak,au,S,t.a.a,(jN A.b.a a.b.a t.a.a)+1) ⟨Z,Z,ZW⟩ (bC.2 ⟨jJ,by exact dO,by exact bz,by exact bB,by exact aJ,f8,f8,f8,Y,Y,Z⟩) ?_
 rintro ⟨Z9,Z1,Z8,I,av,Z2,g,P,Q,Z4,z,G,Z5,L,h,Z0,aa,Z3,u,eu⟩ l6 iQ
 show Wp _ _ _ [(2,vI 0),(0,vP g0 0)] _ _
 obtain⟨cz,bE,bF,az,bG,kX,kY,kZ,lc,lg,aL⟩:=bC.1 iQ
 have lh:=bg bE
 have ll:=bg bF
 have lm:=bg az
 have lq:=bg bG
 obtain⟨aX,iR⟩:∃ q,eu=q+1:=⟨eu - 1,Y⟩
 subst iR
 refine JG (sr (Mz Z (Kz (vP g0 0) (Kz (vP g0 4) (Lz (W av (X g) Z2) cz 0 U9 (Kz (vJ (X g)) (Kz (Zb ((X g:Int) > 0)) (nt ?_))))))))
 by_cases bH:(X g:Int) > 0
 refine jT (dT bH) (sk (bo (sr (Mz Z (Kz (vP g0 0) (Kz (vP g0 4) (Lz (W av (X g) Z2) cz 0 U9 ?_)))))))
 obtain⟨K,ah⟩:=dJ (ls:=g) (i:=0) dC.len f6 (cz.rdsQ (i:=6) Z) f4
 have lu:X u<=6:=Tk.rows (ws:=h) (hs:=z) f8
 have lv:X h+X z<=6:=Tk.n (rs:=u) f8
 have lw:X g<=jN g h u:=Nat.le_add_left _ _
 refine fw (Zq (Zw ⟨ab av,ao av+0 *2,Zv⟩)) (JU (Ef) Z Z ((cz.rdsQ (i:=6) Z).addr (i:=0) Y) Y) (fw (Zx (Zc (dC.J K))) (JS Z (JW (cs:=(dC.J K)) Tryz.isAgg216 Tryz.sizeOf216 ((cz.rdsQ (i:=6) Z).elem dC.len ah f6))) ?_)
 refine cu [.int .u64 0, V J] 216 cz ?_
 intro bi l7 jL
 refine cO (dC.J K) 0 jL Tryz.sizeOf216 ?_
 intro l8 iT
 refine ns (Mz Z (Mz Z (Kz (vP g0 0) (Kz (vP g0 4) (Lz (W av (X g) Z2) iT 1 U9 (fw (W (eU av 1 2 Z2) (X g - 1) (Z2 - 1)) (Ka (Ef) Z Z Y) (Kz (vP g0 0) (Kz (vP g0 4) ?_))))))))
 have jM:=iT.pf [1]
 refine cO [W (eU av 1 2 Z2) (X g - 1) (Z2 - 1)] 4 jM Tryz.sizeOf90 ?_
 intro iU jO
 have jP:=jO.pf [7]
 have iV:X (r6 1 g)=X g - 1:=o1
 have jQ:Own w D iU [jD (eU av 1 2 Z2) (X g - 1) (Z2 - 1) (q0 dC.J (r6 1 g)) 216 2,blk g0 [vP x 0, W Z9 (X I) Z1, W Z6 (X A.a.b.a) Z7, V A.a.e, W (eU av 1 2 Z2) (X g - 1) (Z2 - 1)] 92,blk bi (dC.J K) 216,blk x (kB a B (X a.a.b.a) C P (X z) Q E (X a.a.f.a) F a.a.k j G (X h) Z5 l) 80,blk j [W s (X d.a.a) r] 27,blk l [W Z0 (X u) aa] 114,row Z9 (X I) Z1 (q0 bU.J Z8) 47 21,sepL (q0 Kg Z8),row P (X z) Q (q0 bf.J Z4) 60 2,sepL (q0 J9 Z4),row G (X h) Z5 (q0 aW.J L) 99 4,sepL (q0 J5 L),row Z0 (X u) aa (q0 aB.J Z3) 164 6,sepL (q0 J4 Z3)]:=Mw jP Y (tC dC.len _ _)
 obtain⟨bJ,bL,eB⟩:∃ A9 c9,Own w D iU [jD A9 (X (r6 1 g)) c9 (q0 dC.J (r6 1 g)) 216 2,blk g0 [vP x 0, W Z9 (X I) Z1, W Z6 (X A.a.b.a) Z7, V A.a.e, W A9 (X (r6 1 g)) c9] 92,blk bi (dC.J K) 216,blk x (kB a B (X a.a.b.a) C P (X z) Q E (X a.a.f.a) F a.a.k j G (X h) Z5 l) 80,blk j [W s (X d.a.a) r] 27,blk l [W Z0 (X u) aa] 114,row Z9 (X I) Z1 (q0 bU.J Z8) 47 21,sepL (q0 Kg Z8),row P (X z) Q (q0 bf.J Z4) 60 2,sepL (q0 J9 Z4),row G (X h) Z5 (q0 aW.J L) 99 4,sepL (q0 J5 L),row Z0 (X u) aa (q0 aB.J Z3) 164 6,sepL (q0 J4 Z3)]:=⟨_,_,by rw [iV]; exact jQ⟩
 have lG:=eB.rowCQ (i:=0) Z
 refine nt (JG (sr (Kz (vP bi 1) (Lz (V K.e) eB 2 Tryz.isAgg4 (nt ?_)))))
 rcases Nf (K.e) with bn | bn
 refine jT bn (sr (Mz Z (Kz (vP bi 0) (Lz (vU K.a) eB 2 E3 ?_))))
 have jR:=eB.pf [1,6,7,3,10,11]
 obtain⟨⟨iq,eD⟩,eF⟩:∃ q:bK × aA,iE (bK.q (dL.q (O I) (O A.a.b.a) A.a.e) (O (r6 1 g))) K.a (aA.q (bD.q a.a.l a.a.r a.a.t a.a.s a.a.g (O a.a.b.a) (O z) (O a.a.f.a) a.a.k a.a.u a.a.j a.a.e) (O h))=q:=⟨_,Z⟩
 obtain⟨l9,iW,lH,iX,lI⟩:=KH jR
 refine cl Tryz.call138 (uP _ _ g0 (bK.q (dL.q (O I) (O A.a.b.a) A.a.e) (O (r6 1 g))) Z9 Z1 Z8 Z6 Z7 bJ bL K.a x (aA.q (bD.q a.a.l a.a.r a.a.t a.a.s a.a.g (O a.a.b.a) (O z) (O a.a.f.a) a.a.k a.a.u a.a.j a.a.e) (O h)) B C P Q E F G Z5 L j l iq eD iW bE az f2 eF) ?_
 rintro _ ma ⟨jS,jU,iY,iZ,ja,jb,rfl,jc,eG,eH,eO⟩
 have iw:=iX _ _ jc
 have jV:=bg eG
 have jW:=bg eH
 have jX:=zr 1 iw
 have jY:=zr 4 iw
 replace eO:X iq.a.a.a=X I+1:=eO
 obtain⟨eQ,eX,eY,eZ⟩:=wP (m:=(aA.q (bD.q a.a.l a.a.r a.a.t a.a.s a.a.g (O a.a.b.a) (O z) (O a.a.f.a) a.a.k a.a.u a.a.j a.a.e) (O h))) (line:=g) f8 f8 f8 ah bn eF
 replace eQ:Tk eD.b.a z u:=eQ
 replace eX:Gt eD.b.a:=eX
 replace eY:Li (r6 1 g) u:=eY
 replace eZ:jN (r6 1 g) eD.b.a u+1<=jN g h u:=eZ
 refine nt (Wp.exit (JV (J2 ?_)))
 have jd:=iw.px [0,3,8,9] [7] [4,5,12,13]
 exact JX (jS,jU,iY,iq.a.a.a,bJ,bL,(r6 1 g),P,Q,Z4,z,iZ,ja,jb,eD.b.a,Z0,aa,Z3,u,aX) ⟨Z,Z,ZW⟩ (bC.2 ⟨jd,by exact eG,by exact bF,by exact eH,by exact bG,f8,f8,f8,Y,Y,N (aL) (N (ip bH) (N (ae (bu ah)) (N (ip bn) (ae eF))))⟩) (by show aX < aX+1; omega)
 refine jF bn (sk (JG (JG ?_)))
 refine mX 14 [] (JP (JP (bI.block (JP (bI.block (JP J3)))))) eB ?_
 intro lJ je
 refine qv 0 Z Z (qp g0 0 1 Z (qp g0 0 2 Z (ql 3 Z 1 Tryz.isAgg28 Z Z Z (qp bi 0 4 Z (ql 5 Z 2 E3 Z Z Z ?_)))))
 have dA:=je.pf [3]
 have jZ:=zr 10 dA
 obtain⟨⟨p,aM⟩,af⟩:∃ q:Int × Bool,bX (aA.q (bD.q a.a.l a.a.r a.a.t a.a.s a.a.g (O a.a.b.a) (O z) (O a.a.f.a) a.a.k a.a.u a.a.j a.a.e) (O h)) K.a=q:=⟨_,Z⟩
 obtain⟨lK,iy,j3,iA,cB⟩:=Kb dA
 refine qd 6 Z (J6 Tryz.call79 Z (jv _ _ x (aA.q (bD.q a.a.l a.a.r a.a.t a.a.s a.a.g (O a.a.b.a) (O z) (O a.a.f.a) a.a.k a.a.u a.a.j a.a.e) (O h)) B C P Q E F G Z5 L j l K.a p aM iy az (cB _ 9 _ Z bQ) Y (λ x9 h9=>⟨cB _ 10 _ Z (bM (P8.2 ⟨x9,h9,b3⟩) bQ),dH (φ:=λ _=>_) dA (i:=11) Z (bM (P8.2 ⟨x9,h9,b3⟩) dP),cB _ 10 _ Z (bM (P8.2 ⟨x9,h9, .tail _ b3⟩) bQ),dH (φ:=λ _=>_) dA (i:=11) Z (bM (P8.2 ⟨x9,h9, .tail _ b3⟩) dP)⟩) f2 af) ?_)
 rintro _ lL ⟨rfl,iB,fe,fq⟩
 have jf:=iA _ _ iB
 replace fe:0<=p/\p<=(X h:Int):=fe
 replace fq:Bool.toNat aM=0\/p < (X h:Int):=fq
 have M:=jf.pf [1,2,3]
 refine⟨.inr ⟨_,M⟩, ?_⟩
 refine qv 7 Z Z (qk (vI p) 8 Z (qk (V aM) 9 Z (qa 10 Z Z (qa 11 Z Z (qn (JK (sr (Mn Z ?_))))))))
 rcases Nf (aM) with R | R
 have h144t:Bool.toNat aM=1:=by rw [R]; rfl
 refine jT R (JI (Mz Z (Kz (vP g0 0) (Kz (vP g0 0) (Lz (vP x 0) M 1 Tryz.isAgg28 (Kz (vP x 0) (Kz (vP x 18) (Lz (W G (X h) Z5) M 3 Tryz.isAgg77 (fw (vJ (U p)) (JN (e:=p) (JM Z) Y) ?_)))))))))
 obtain⟨b,ag⟩:=dJ (ls:=L) (i:=U p) aW.len f6 (M.rds (i:=10) Z) f4
 have ax:=gq az ag
 have j4:X b.f.a<=b.f.c/\X b.f.a<=9223372036854775807:=dH M (i:=11) Z (φ:=λ _=>_) (bM (P8.2 ⟨b,E1 ag,b3⟩) dP)
 have j5:X b.e.a<=b.e.c/\X b.e.a<=9223372036854775807:=dH M (i:=11) Z (φ:=λ _=>_) (bM (P8.2 ⟨b,E1 ag, .tail _ b3⟩) dP)
 obtain⟨j6,kg,ko⟩:(0<=b.b/\b.b<=(X b.e.a:Int))/\X b.f.a<=24/\X b.e.a<=24:=Tk.wat (ws:=h) f8 ax
 have kr:b.b < (X b.e.a:Int):=Gt.wat (ws:=h) f8 ax
 refine fw (Zq (Zw ⟨ab G,ao G+(U p) *4,Zv⟩)) (JU (l5) Z Z ((M.rds (i:=10) Z).addr (i:=U p) Y) Y) (Kz (Zq (Zw ⟨ab G,ao G+(U p) *4+3,Zv⟩)) (fw (vI b.b) (JS Z (bT.one Tryz.isAgg3 (((M.rds (i:=10) Z).elem aW.len ag f6).at_ (k:=3) Z))) (fw (vI (b.b+1)) (JN (e:=IntKind.i64.wrap (b.b+1)) yk i8) (fw (Zq (Zw ⟨ab G,ao G+(U p) *4,Zv⟩)) (JU (l5) Z Z ((M.rds (i:=10) Z).addr (i:=U p) Y) Y) (Kz (Zq (Zw ⟨ab G,ao G+(U p) *4+3,Zv⟩)) ?_)))))
 have jg:=M.pf [10]
 refine Kw (Do.storeRow (vs:= [vI (b.b+1)]) (o:=(U p) *4+3) (q:=ao G+(U p) *4+3) jg Z Y Z Tryz.sizeOf3 Z Z (M9 Z) (jG aW.len ag (M9 Z)) (kE (y:=(aW.q b.a b.f b.e (b.b+1))) aW.len Z (M9 Z) ag) ?_)
 intro fT jh
 have fu:Own w D fT [row G (X h) Z5 (q0 aW.J (N0 L (U p) (aW.q b.a b.f b.e (b.b+1)))) 99 4,jD bJ (X (r6 1 g)) bL (q0 dC.J (r6 1 g)) 216 2,blk g0 [vP x 0, W Z9 (X I) Z1, W Z6 (X A.a.b.a) Z7, V A.a.e, W bJ (X (r6 1 g)) bL] 92,blk bi (dC.J K) 216,blk x (kB a B (X a.a.b.a) C P (X z) Q E (X a.a.f.a) F a.a.k j G (X h) Z5 l) 80,blk j [W s (X d.a.a) r] 27,blk l [W Z0 (X u) aa] 114,row Z9 (X I) Z1 (q0 bU.J Z8) 47 21,sepL (q0 Kg Z8),row P (X z) Q (q0 bf.J Z4) 60 2,sepL (q0 J9 Z4),sepL (q0 J5 (N0 L (U p) (aW.q b.a b.f b.e (b.b+1)))),row Z0 (X u) aa (q0 aB.J Z3) 164 6,sepL (q0 J4 Z3)]:=by rw [mi (f:=J5) (y:=(aW.q b.a b.f b.e (b.b+1))) ag Z]; exact jh
 have ku:X (N0 L (U p) (aW.q b.a b.f b.e (b.b+1)))=X (N0 h (U p) (bA.q b.a (O b.f.a) (O b.e.a) (b.b+1))):=bg (eT az Z)
 have kv:X (N0 h (U p) (bA.q b.a (O b.f.a) (O b.e.a) (b.b+1)))=X h:=N1
 refine ns (Mz Z (Kz (vP bi 0) (Lz (vU K.a) fu 3 E3 ?_)))
 have kw:Tk (N0 h (U p) (bA.q b.a (O b.f.a) (O b.e.a) (b.b+1))) z u:=Tk.bump f8 ax Z Z Z (show (0:Int)<=b.b+1/\b.b+1<=(X b.e.a:Int) from by omega)
 have aK:X h=X (N0 h (U p) (bA.q b.a (O b.f.a) (O b.e.a) (b.b+1))):=by first | omega | (simp only [N1]; done) | (simp only [N1,List.length_append,List.length_cons,List.length_nil,List.length_take,o1,List.length_replicate]; omega)
 have ji:Own w D fT [row G (X (N0 h (U p) (bA.q b.a (O b.f.a) (O b.e.a) (b.b+1)))) Z5 (q0 aW.J (N0 L (U p) (aW.q b.a b.f b.e (b.b+1)))) 99 4,jD bJ (X (r6 1 g)) bL (q0 dC.J (r6 1 g)) 216 2,blk g0 [vP x 0, W Z9 (X I) Z1, W Z6 (X A.a.b.a) Z7, V A.a.e, W bJ (X (r6 1 g)) bL] 92,blk bi (dC.J K) 216,blk x (kB a B (X a.a.b.a) C P (X z) Q E (X a.a.f.a) F a.a.k j G (X (N0 h (U p) (bA.q b.a (O b.f.a) (O b.e.a) (b.b+1)))) Z5 l) 80,blk j [W s (X d.a.a) r] 27,blk l [W Z0 (X u) aa] 114,row Z9 (X I) Z1 (q0 bU.J Z8) 47 21,sepL (q0 Kg Z8),row P (X z) Q (q0 bf.J Z4) 60 2,sepL (q0 J9 Z4),sepL (q0 J5 (N0 L (U p) (aW.q b.a b.f b.e (b.b+1)))),row Z0 (X u) aa (q0 aB.J Z3) 164 6,sepL (q0 J4 Z3)]:=by first | (rw [<- aK]; exact fu) | (have q9:=fu; rw [aK] at q9; exact q9)
 have jk:=ji.px [2,7,8] [] [0,11,5,6,12,13,3]
 obtain⟨⟨bO,aC,ai,aO⟩,bq⟩:∃ q:Int × bK × aA × aZ,fo (bK.q (dL.q (O I) (O A.a.b.a) A.a.e) (O (r6 1 g))) K.a (aA.q (bD.q a.a.l a.a.r a.a.t a.a.s a.a.g (O a.a.b.a) (O z) (O a.a.f.a) a.a.k a.a.u a.a.j a.a.e) (O (N0 h (U p) (bA.q b.a (O b.f.a) (O b.e.a) (b.b+1))))) d (aZ.q (O u))=q:=⟨_,Z⟩
 obtain⟨lN,iC,fA,iD,ky⟩:=KP jk
 refine cl Tryz.call83 (qL _ _ g0 (bK.q (dL.q (O I) (O A.a.b.a) A.a.e) (O (r6 1 g))) Z9 Z1 Z8 Z6 Z7 bJ bL K.a x (aA.q (bD.q a.a.l a.a.r a.a.t a.a.s a.a.g (O a.a.b.a) (O z) (O a.a.f.a) a.a.k a.a.u a.a.j a.a.e) (O (N0 h (U p) (bA.q b.a (O b.f.a) (O b.e.a) (b.b+1))))) B C P Q Z4 E F G Z5 (N0 L (U p) (aW.q b.a b.f b.e (b.b+1))) j d s r l (aZ.q (O u)) Z0 aa Z3 bO aC ai aO iC bE (fA _ dR) Y bF (eT az Z) (fA _ aI) Y bG f8 (by first | omega | exact Tk.n f8) (by first | omega | exact Tk.rows f8) f2 bq) ?_
 rintro _ lQ ⟨fU,fV,fZ,gm,gp,gu,gy,gz,gB,gD,gF,gG,gH,gI,rfl,iF,cK,cZ,dh,di⟩
 have aP:=iD _ _ iF
 have kz:=bg cK
 have kC:=bg cZ
 have kD:=bg dh
 have kF:=bg di
 have kG:=zr 1 aP
 have kH:=aP.rowCQ (i:=3) Z
 have kI:=zr 5 aP
 have kJ:=zr 7 aP
 have kK:=zr 11 aP
 obtain⟨fC,fD,fE,fF,fG⟩:=yA (m:=(aA.q (bD.q a.a.l a.a.r a.a.t a.a.s a.a.g (O a.a.b.a) (O z) (O a.a.f.a) a.a.k a.a.u a.a.j a.a.e) (O h))) (tb:=(aZ.q (O u))) (line:=g) f8 f8 f8 ah (af.trans (ZJ (λ q=>(_,q)) R)) ax Z Z bq
 replace fC:Tk ai.b.a ai.a.a.a aO.a.a:=fC
 replace fD:Gt ai.b.a:=fD
 replace fE:Li aC.b.a aO.a.a:=fE
 replace fF:jN aC.b.a ai.b.a aO.a.a+1<=jN g h u:=fF
 replace fG:X aC.a.a.a<=X I+1:=fG
 refine An Z (JG ?_)
 have gJ:=aP.px [] [13] []
 refine JI (Mz Z (fw (Zb (¬ (bO=0))) (JZ (e:= !(Zy (bO=0))) yk ZY) (nt ?_)))
 by_cases dB:bO=0
 refine jF (dF (Nc dB)) (J8 (bN ?_))
 have jl:=gJ.pf [0,4,9,10]
 exact JX (fU,fV,fZ,aC.a.a.a,gm,gp,aC.b.a,gu,gy,gz,ai.a.a.a,gB,gD,gF,ai.b.a,gG,gH,gI,aO.a.a,aX) ⟨Z,Z,ZW⟩ (bC.2 ⟨jl,by exact cK,by exact cZ,by exact dh,by exact di,f8,f8,f8,Y,Y,N (aL) (N (ip bH) (N (ae (bu ah)) (N (eP bn) (N (ae af) (N (ip R) (N (ae (bu ax)) (N (ae bq) (ip dB))))))))⟩) (by show aX < aX+1; omega)
 refine jT (dT dB) (sr (Mz Z (An Z (rt (bR (tR (bR (tR (rs ?_)))))))))
 have jm:=gJ.pf []
 obtain⟨rfl,rfl,rfl,rfl⟩:=fO (zj hr (show _=(bO,bK.q (dL.q (O aC.a.a.a) (O A.a.b.a) A.a.e) (O aC.b.a),aA.q (bD.q a.a.l a.a.r a.a.t a.a.s a.a.g (O a.a.b.a) (O ai.a.a.a) (O a.a.f.a) a.a.k a.a.u a.a.j a.a.e) (O ai.b.a),aO) from iJ (N (aL) (N (ip bH) (N (ae (bu ah)) (N (eP bn) (N (ae af) (N (ip R) (N (ae (bu ax)) (N (ae bq) (iN dB)))))))))))
 exact⟨fU,fV,fZ,gm,gp,gu,gy,gz,gB,gD,gF,gG,gH,gI,(by first | rfl | (rw [<- aK]; done) | (rw [<- aK]; rfl) | (rw [aK]; first | done | rfl)),jm,cK,cZ,dh,di⟩
 have h144t:Bool.toNat aM=0:=by rw [R]; rfl
 refine jF R (sk (sr (Mz Z (Kz (vP bi 0) (Lz (vU K.a) M 2 E3 ?_)))))
 have jo:=M.px [1,6,7] [] [4,5,12,13,2]
 obtain⟨⟨bS,aD,aj,aQ⟩,bv⟩:∃ q:Int × bK × aA × aZ,fo (bK.q (dL.q (O I) (O A.a.b.a) A.a.e) (O (r6 1 g))) K.a (aA.q (bD.q a.a.l a.a.r a.a.t a.a.s a.a.g (O a.a.b.a) (O z) (O a.a.f.a) a.a.k a.a.u a.a.j a.a.e) (O h)) d (aZ.q (O u))=q:=⟨_,Z⟩
 obtain⟨lS,iG,fH,iH,kL⟩:=KP jo
 refine cl Tryz.call83 (qL _ _ g0 (bK.q (dL.q (O I) (O A.a.b.a) A.a.e) (O (r6 1 g))) Z9 Z1 Z8 Z6 Z7 bJ bL K.a x (aA.q (bD.q a.a.l a.a.r a.a.t a.a.s a.a.g (O a.a.b.a) (O z) (O a.a.f.a) a.a.k a.a.u a.a.j a.a.e) (O h)) B C P Q Z4 E F G Z5 L j d s r l (aZ.q (O u)) Z0 aa Z3 bS aD aj aQ iG bE (fH _ dR) Y bF az (fH _ aI) Y bG f8 (by first | omega | exact Tk.n f8) (by first | omega | exact Tk.rows f8) f2 bv) ?_
 rintro _ lT ⟨gK,gL,gM,gN,gP,gQ,gT,gU,gV,gW,gX,gY,gZ,ib,rfl,iI,dm,dn,dw,dx⟩
 have aR:=iH _ _ iI
 have kM:=bg dm
 have kN:=bg dn
 have kP:=bg dw
 have kQ:=bg dx
 have kR:=zr 1 aR
 have kS:=aR.rowCQ (i:=3) Z
 have kT:=zr 5 aR
 have kU:=zr 7 aR
 have kV:=zr 11 aR
 obtain⟨fI,fJ,fK,fM,fP⟩:=yB (m:=(aA.q (bD.q a.a.l a.a.r a.a.t a.a.s a.a.g (O a.a.b.a) (O z) (O a.a.f.a) a.a.k a.a.u a.a.j a.a.e) (O h))) (tb:=(aZ.q (O u))) (line:=g) f8 f8 f8 ah af (by rw [R]; decide) Z bv
 replace fI:Tk aj.b.a aj.a.a.a aQ.a.a:=fI
 replace fJ:Gt aj.b.a:=fJ
 replace fK:Li aD.b.a aQ.a.a:=fK
 replace fM:jN aD.b.a aj.b.a aQ.a.a+1<=jN g h u:=fM
 replace fP:X aD.a.a.a<=X I+1:=fP
 refine An Z (JG ?_)
 have ic:=aR.px [] [13] []
 refine JI (Mz Z (fw (Zb (¬ (bS=0))) (JZ (e:= !(Zy (bS=0))) yk ZY) (nt ?_)))
 by_cases dD:bS=0
 refine jF (dF (Nc dD)) (J8 (bN ?_))
 have jq:=ic.pf [0,4,9,10]
 exact JX (gK,gL,gM,aD.a.a.a,gN,gP,aD.b.a,gQ,gT,gU,aj.a.a.a,gV,gW,gX,aj.b.a,gY,gZ,ib,aQ.a.a,aX) ⟨Z,Z,ZW⟩ (bC.2 ⟨jq,by exact dm,by exact dn,by exact dw,by exact dx,f8,f8,f8,Y,Y,N (aL) (N (ip bH) (N (ae (bu ah)) (N (eP bn) (N (ae af) (N (eP R) (N (ae bv) (ip dD)))))))⟩) (by show aX < aX+1; omega)
 refine jT (dT dD) (sr (Mz Z (An Z (rt (bR (tR (bR (tR (rs ?_)))))))))
 have jr:=ic.pf []
 obtain⟨rfl,rfl,rfl,rfl⟩:=fO (zj hr (show _=(bS,bK.q (dL.q (O aD.a.a.a) (O A.a.b.a) A.a.e) (O aD.b.a),aA.q (bD.q a.a.l a.a.r a.a.t a.a.s a.a.g (O a.a.b.a) (O aj.a.a.a) (O a.a.f.a) a.a.k a.a.u a.a.j a.a.e) (O aj.b.a),aQ) from iJ (N (aL) (N (ip bH) (N (ae (bu ah)) (N (eP bn) (N (ae af) (N (eP R) (N (ae bv) (iN dD))))))))))
 exact⟨gK,gL,gM,gN,gP,gQ,gT,gU,gV,gW,gX,gY,gZ,ib,Z,jr,dm,dn,dw,dx⟩
 refine jF (dF bH) (Wp.exit (JV ?_))
 have iK:fB A a d ((jN A.b.a a.b.a t.a.a)+1) A.a.a.a A.b.a a.a.a.a a.b.a t.a.a=Sum.inl (I,g,z,h,u):=N (aL) (iN bH)
 refine JV (J2 (JK (sr (An Z (rt (rs ?_))))))
 have jw:=cz.px [0,4,5,6] [] [2,3,11,12]
 obtain⟨rfl,rfl,rfl,rfl⟩:=fO (zj hr (show _=(0,bK.q (dL.q (O I) (O A.a.b.a) A.a.e) (O g),aA.q (bD.q a.a.l a.a.r a.a.t a.a.s a.a.g (O a.a.b.a) (O z) (O a.a.f.a) a.a.k a.a.u a.a.j a.a.e) (O h),aZ.q (O u)) from lD iK))
 exact⟨Z9,Z1,Z8,av,Z2,P,Q,Z4,G,Z5,L,Z0,aa,Z3,Z,jw,bE,bF,az,bG⟩
end
open List renaming length_filter_le->Q2
open Nat renaming le_of_lt_succ->V1,lt_of_lt_of_le->V0
structure IR (p:bK) (m:aA) (t:bK) (m':aA) (tb':aZ):Prop where q::
  tk:Tk m'.b.a m'.a.a.a tb'.a.a
  gt:Gt m'.b.a
  a:∀ n,Tx m'.b.a m'.a.a.a n->Tx m.b.a m.a.a.a n
  wr:t.a.b=p.a.b
  st:m'.a= { m.a with a:=m'.a.a }
theorem Hr {k:Nat} {ws:List bA} {hs:List df} {n:Nat} (h:Tx (qM k ws) hs n):Tx ws hs n:=by
  rcases h with ⟨w,hw,e⟩ | h
  . exact .inl ⟨w,(T2.1 hw).1,e⟩
  . exact .inr h
theorem Fs (p:bK) (m:aA) (s:StoreT):∀ (q:Nat) (o:List dK) (l:List dC) (hs:List df) (ws:List bA) (rs:List aN),Tk ws hs rs->Gt ws->Li l rs->jN l ws rs < q->
    (∀ n,Tx ws hs n->Tx m.b.a m.a.a.a n)->
    (∀ o' l' hs' ws' rs',fB p m s q o l hs ws rs= .inl (o',l',hs',ws',rs')->Tk ws' hs' rs'/\Gt ws'/\(∀ n,Tx ws' hs' n->Tx m.b.a m.a.a.a n))/\
    (∀ e t m' tb',fB p m s q o l hs ws rs= .inr (e,t,m',tb')->IR p m t m' tb'):=by
  intro q
  induction q with
  | zero=>intro o l hs ws rs _ _ _ h; omega
  | succ q ih=>
    intro o l hs ws rs hk hg hli hq htx
    rw [fB]
    simp only [bG]
    by_cases B:((X l:Nat):Int) > 0
    . rw [ZK B]
      obtain⟨f,hf⟩:∃ f,l[0]? =Zw f:=⟨_,List.getElem?_eq_getElem Y⟩
      rw [bu hf]
      by_cases u:f.e=Zk
      . rw [ZK u]
        generalize hd:iE _ _ _=v
        obtain⟨C,a⟩:=v
        obtain⟨c,d,j,k⟩:=wP hk hg hli hf u hd
        have g:∀ n,Tx a.b.a hs n->Tx m.b.a m.a.a.a n:=λ n hn=>htx n (by
          unfold iE at hd
          rw [bG,qo hk.a] at hd
          obtain⟨_,rfl⟩:=fK hd
          exact Hr hn)
        exact ih _ _ _ _ _ c d j (V0 k (V1 hq)) g
      . rw [ZV u]
        generalize hfd:bX _ _=D
        obtain⟨i,b⟩:=D
        cases b with
        | true=>
          simp only [if_true]
          have hw:=nU hk.a hfd
          obtain⟨x,hx,hxt⟩:=hw
          have hx':ws[U i]? =Zw x:=hx
          have hgx:=hg.wat hx'
          rw [bu hx']
          generalize hgo:fo _ _ _ _ _=v
          obtain⟨w,C,a,z⟩:=v
          obtain⟨c,d,j,k,_⟩:=yA (tb:=aZ.q (O rs)) hk hg hli hf hfd hx Z Z hgo
          have hb:=hk.bump (y:=bA.q x.a (O x.f.a) (O x.e.a) (x.b+1)) hx' Z Z Z (by have:=hk.wat hx'; exact⟨show (0:Int)<=x.b+1 by omega,show x.b+1<=((X x.e.a:Nat):Int) by omega⟩)
          have A:=drop1 hf
          rw [A] at hli
          have hG:=(rF (tb:=aZ.q (O rs)) hb hli.tail.1 hli.tail.2 (Gx.set (y:=bA.q x.a (O x.f.a) (O x.e.a) (x.b+1)) (hg.gx f.a) hxt) hgo).1
          have g:∀ n,Tx a.b.a a.a.a.a n->Tx m.b.a m.a.a.a n:=λ n hn=>htx n (Fq (y:=bA.q x.a (O x.f.a) (O x.e.a) (x.b+1)) hx' Z n (hG.a n hn))
          by_cases r:w=0
          . rw [ZK r]
            exact ih _ _ _ _ _ c d j (V0 k (V1 hq)) g
          . rw [ZV r]
            refine⟨λ _ _ _ _ _ h=>(by cases h),λ e t m' tb' h=> ?_⟩
            obtain⟨_,rfl,rfl,rfl⟩:=fO (Sum.inr.inj h)
            exact⟨c,d,g,Z,Z⟩
        | false=>
          simp only [Bool.false_eq_true,if_false]
          generalize hgo:fo _ _ _ _ _=v
          obtain⟨w,C,a,z⟩:=v
          obtain⟨c,d,j,k,_⟩:=yB (tb:=aZ.q (O rs)) hk hg hli hf hfd f6 Z hgo
          have A:=drop1 hf
          rw [A] at hli
          have hG:=(rF (tb:=aZ.q (O rs)) hk hli.tail.1 hli.tail.2 (hg.gx f.a) hgo).1
          have g:∀ n,Tx a.b.a a.a.a.a n->Tx m.b.a m.a.a.a n:=λ n hn=>htx n (hG.a n hn)
          by_cases r:w=0
          . rw [ZK r]
            exact ih _ _ _ _ _ c d j (V0 k (V1 hq)) g
          . rw [ZV r]
            refine⟨λ _ _ _ _ _ h=>(by cases h),λ e t m' tb' h=> ?_⟩
            obtain⟨_,rfl,rfl,rfl⟩:=fO (Sum.inr.inj h)
            exact⟨c,d,g,Z,Z⟩
    . rw [ZV B]
      refine⟨λ o' l' hs' ws' rs' h=> ?_,λ _ _ _ _ h=>(by cases h)⟩
      injection h with h
      obtain⟨_,h⟩:=fK h
      obtain⟨_,rfl,rfl,rfl⟩:=fO h
      exact⟨hk,hg,htx⟩
theorem Fu {p:bK} {m:aA} {s:StoreT} {tb:aZ} (hk:Tk m.b.a m.a.a.a tb.a.a) (hg:Gt m.b.a) (hli:Li p.b.a tb.a.a) {e:Int} {t:bK} {m':aA} {tb':aZ} (h:dQ p m s tb=(e,t,m',tb')):IR p m t m' tb':=by
  unfold dQ at h
  obtain⟨hl,hr⟩:=Fs p m s (jN p.b.a m.b.a tb.a.a+1) p.a.a.a p.b.a m.a.a.a m.b.a tb.a.a hk hg hli (Nat.lt_succ_self _) (λ _ h=>h)
  cases a:fB p m s (jN p.b.a m.b.a tb.a.a+1) p.a.a.a p.b.a m.a.a.a m.b.a tb.a.a with
  | inr z=>
    obtain⟨c,d,f,b⟩:=z
    rw [a] at h
    obtain⟨_,rfl,rfl,rfl⟩:=fO (show (c,d,f,b)=(e,t,m',tb') from h)
    exact hr _ _ _ _ a
  | inl z=>
    obtain⟨o,q,g,i,j⟩:=z
    rw [a] at h
    obtain⟨k,l,n⟩:=hl _ _ _ _ _ a
    obtain⟨_,rfl,rfl,rfl⟩:=fO h
    exact⟨k,l,n,Z,Z⟩
theorem I9 {ws:List bA} {hs:List df} {rs:List aN} (h:Tk ws hs rs):sg ws<=24 *X ws:=by
  have key:∀ l:List bA,(∀ w ∈ l,(0<=w.b/\w.b<=((X w.e.a:Nat):Int))/\X w.f.a<=24/\X w.e.a<=24)->sg l<=24 *X l:=by
    intro l
    induction l with
    | nil=>intro _; exact Nat.le_refl _
    | cons a l ih=>
      intro h
      have b:=h a b3
      have c:=ih λ w hw=>h w (.tail _ hw)
      rw [yz,q5]
      omega
  exact key ws h.g
theorem Ci {ws:List bA} {hs:List df} {rs:List aN} (h:Tk ws hs rs) (l:List dC):jN l ws rs<=300+X l:=by
  have a:=I9 h
  have b:=h.n
  have c:=h.rows
  have d:=zM rs
  unfold jN
  omega
theorem Jz:∀ (l:List aY) (o:List aF) (r:(List aF)),gF l o=r->X r<=X o+X l:=by
  intro l
  induction l with
  | nil=>intro o r h; rw [gF] at h; rw [<- h]; exact Nat.le_refl _
  | cons a l ih=>
    intro o r h
    have key:∀ y:aF,gF l (o++ [y])=r->X r<=X o+X (a::l):=λ y hy=>by
      have:=ih _ _ hy
      simp only [o2,q5,L3] at this ⊢
      omega
    rw [gF] at h
    simp only [bG] at h
    repeat' split at h
    all_goals exact key _ h
theorem uX {l:List aY} {r:List aF} {e:Int} (h:nX l=(r,e)):X r<=X l:=by
  unfold nX at h
  rw [bG] at h
  split at h
  . rw [bG] at h
    obtain⟨rfl,_⟩:=fK h
    have:=Jz l [] _ Z
    simpa using this
  . obtain⟨rfl,_⟩:=fK h; exact Nb _
theorem uq {m:aA} {x:dK} {b:Bool} (h:jA m x=b) (hb:b=J) (f:X m.a.a.a<=1000) (g:X m.b.a<=1000) (i:X m.a.f.a<=1000):
    X m.a.a.a+X m.b.a < 6/\X m.a.a.a+X m.b.a+X m.a.f.a < 64:=by
  subst hb
  unfold jA at h
  have c:IntKind.i64.wrap (((X m.a.a.a:Nat):Int)+((X m.b.a:Nat):Int))=((X m.a.a.a:Nat):Int)+((X m.b.a:Nat):Int):=Na _ Y
  have d:IntKind.i64.wrap (((X m.a.a.a:Nat):Int)+((X m.b.a:Nat):Int)+((X m.a.f.a:Nat):Int))=((X m.a.a.a:Nat):Int)+((X m.b.a:Nat):Int)+((X m.a.f.a:Nat):Int):=Na _ Y
  rw [c,d] at h
  by_cases a:((X m.a.a.a:Nat):Int)+((X m.b.a:Nat):Int) >= 6
  . rw [ZK a] at h; cases h
  . rw [ZV a] at h
    by_cases e:((X m.a.a.a:Nat):Int)+((X m.b.a:Nat):Int)+((X m.a.f.a:Nat):Int) >= 64
    . rw [ZK e] at h; cases h
    . exact⟨Y,Y⟩
theorem Cj {P:Prop} (h:Zk=J):P:=Bool.noConfusion h
theorem hnot {hs:List df} (hu:vY hs) {k:Nat} {j:Int} (hf:bH hs k=(j,J)):∀ h ∈ hs,h.f≠k:=λ z hz e=>by
  rcases qm hu k with ⟨a,p,q,c,hp,ha,hq,h⟩ | ⟨a,q,c,ha,hq,h⟩
  . rw [h] at hf; exact Cj (ZJ Prod.snd hf)
  . rw [c] at hz
    rcases T1.1 hz with b | b
    . have:=ha z b; omega
    . have:=hq z b; omega
theorem Ej {ws:List bA} (hu:tL ws) {k:Nat} {j:Int} (hf:bJ ws k=(j,J)):∀ w ∈ ws,w.a≠k:=λ z hz e=>by
  rcases tN hu k with ⟨a,p,q,c,hp,ha,hq,h⟩ | ⟨a,q,c,ha,hq,h⟩
  . rw [h] at hf; exact Cj (ZJ Prod.snd hf)
  . rw [c] at hz
    rcases T1.1 hz with b | b
    . have:=ha z b; omega
    . have:=hq z b; omega
theorem Ht {ws:List bA} (hu:tL ws) {z:bA} {j:Int} {b:Bool} (hf:bJ ws z.a=(j,b)) (hn:∀ w ∈ ws,w.a≠z.a):tL (t8 (U j) ws++(z::r6 (U j) ws)):=by
  rcases tN hu z.a with ⟨a,p,q,c,hp,ha,hq,h⟩ | ⟨a,q,c,ha,hq,h⟩
  . exact absurd hp (hn p (by rw [c]; simp))
  . rw [h] at hf
    have d:j=(X a:Int):=(ZJ Prod.fst hf).symm
    rw [d,O2,c,u3 Z,List.drop_left' Z]
    rw [c] at hu
    obtain⟨f,g,i⟩:=T0.1 hu
    exact T0.2 ⟨f,List.pairwise_cons.2 ⟨hq,g⟩,λ r hr s hs=>by
      rcases List.mem_cons.1 hs with e | e
      . rw [e]; exact ha r hr
      . exact i r hr s e⟩
theorem zW {m:aA} {rs:List aN} {k:Nat} {i j:Int} {bw bh:Bool} {o:List aY} {l:List aF} (h:Tk m.b.a m.a.a.a rs) (hg:Gt m.b.a) (hh:dX m k=(j,bh)) (hb:bh=J) (hw:bX m k=(i,bw)) (hc:bw=J)
    (hn:X m.a.a.a+X m.b.a < 6) (ho:X o<=24) (hl:X l<=24):
    Tk (t8 (U i) m.b.a++((bA.q k (O o) (O l) 0)::r6 (U i) m.b.a)) m.a.a.a rs/\Gx k (t8 (U i) m.b.a++((bA.q k (O o) (O l) 0)::r6 (U i) m.b.a)):=by
  subst hb hc
  rw [hfind] at hh
  rw [zU] at hw
  have nh:=hnot h.hu hh
  have nw:=Ej h.a hw
  refine⟨⟨Ht (z:=bA.q k (O o) (O l) 0) h.a hw nw,h.hu,λ w hw z hz=> ?_, ?_,λ w hw=> ?_,h.b,h.snd,λ r hr=> ?_⟩,λ w hw hk=> ?_⟩
  . rcases lX.1 hw with e | e
    . rw [e]; exact(nh z hz).symm
    . exact h.e w e z hz
  . have a:X (t8 (U i) m.b.a)+X (r6 (U i) m.b.a)=X m.b.a:=by rw [<- o2,List.take_append_drop]
    rw [o2,q5]; omega
  . rcases lX.1 hw with e | e
    . rw [e]; exact⟨⟨Int.le_refl _,by show (0:Int)<=_; omega⟩,ho,hl⟩
    . exact h.g w e
  . rcases h.f r hr with ⟨w,hw,e⟩ | e
    . exact .inl ⟨w,lX.2 (.inr hw),e⟩
    . exact .inr e
  . rcases lX.1 hw with e | e
    . rw [e] at hk; exact absurd Z hk
    . exact hg w e
def ze (k:Nat) (l:List df):List df:=l.filter λ h=>decide (h.f≠k)
theorem Dx {hs:List df} (hu:vY hs) {k:Nat} {j:Int} (hf:bH hs k=(j,Zk)):t8 (U j) hs++r6 (U j+1) hs=ze k hs:=by
  rcases qm hu k with ⟨a,p,q,b,hp,ha,hq,h⟩ | ⟨a,q,b,ha,hq,h⟩
  . rw [h] at hf
    have c:j=(X a:Int):=(ZJ Prod.fst hf).symm
    have d:a.filter (λ w=>decide (w.f≠k))=a:=U3.2 λ r hr=>decide_eq_true (Nat.ne_of_lt (ha r hr))
    have e:q.filter (λ w=>decide (w.f≠k))=q:=U3.2 λ r hr=>decide_eq_true (Nat.ne_of_gt (hq r hr))
    have f:t8 (X a) hs=a:=by rw [b]; exact u3 Z
    have g:r6 (X a+1) hs=q:=by rw [b]; simp
    rw [c,O2,f,g]
    unfold ze
    rw [b,List.filter_append,List.filter_cons_of_neg (by simp [hp]),d,e]
  . rw [h] at hf; exact Bool.noConfusion (show J=Zk from ZJ Prod.snd hf)
theorem Dy {hs:List df} {k:Nat} (h:∀ z ∈ hs,z.f≠k):ze k hs=hs:=U3.2 λ z hz=>decide_eq_true (h z hz)
theorem IU {ws:List bA} {hs:List df} {rs rs':List aN} {k:Nat} (h:Tk ws hs rs) (hr:∀ q ∈ rs',q.a≠k/\∃ s ∈ rs,s.a=q.a) (hs':jE rs'):Tk (qM k ws) (ze k hs) rs' where
  a:=h.a.filter _
  hu:=h.hu.filter _
  e:=λ w hw z hz=>h.e w (T2.1 hw).1 z (T2.1 hz).1
  n:=by
    have:=h.n
    have b:=Q2 (λ w:bA=>decide (w.a≠k)) ws
    have c:=Q2 (λ w:df=>decide (w.f≠k)) hs
    unfold qM ze; omega
  g:=λ w hw=>h.g w (T2.1 hw).1
  b:=λ w hw=>h.b w (T2.1 hw).1
  snd:=hs'
  f:=λ q hq=>by
    obtain⟨b,s,c,a⟩:=hr q hq
    rcases h.f s c with ⟨w,hw,e⟩ | ⟨z,hz,e⟩
    . exact .inl ⟨w,T2.2 ⟨hw,decide_eq_true (by rw [e,a]; exact b)⟩,by rw [e,a]⟩
    . exact .inr ⟨z,T2.2 ⟨hz,decide_eq_true (by rw [e,a]; exact b)⟩,by rw [e,a]⟩
theorem yf {m m1 r:aA} {tb tb':aZ} {k:Nat} {j:Int} {b:Bool} {hs':List df} {p t:bK} {mr:aA} (h:Tk m.b.a m.a.a.a tb.a.a) (hg:Gt m.b.a) (hf:dX m k=(j,b))
    (a:(b=Zk/\hs'=t8 (U j) m.a.a.a++r6 (U j+1) m.a.a.a)\/(b=J/\hs'=m.a.a.a)) (hm:m1.b=m.b) (hd:dU m1 k=r) (hl:p.b.a= []) (hr:eO p k mr tb=(t,tb')):
    Tk r.b.a hs' tb'.a.a/\Gt r.b.a/\Li t.b.a tb'.a.a/\X t.b.a<=6:=by
  obtain⟨i,f,g,c,d⟩:=Ch h.snd hr
  have hw:tL m1.b.a:=by rw [hm]; exact h.a
  rw [qo hw] at hd
  subst hd
  rw [hfind] at hf
  have e:hs'=ze k m.a.a.a:=by
    rcases a with ⟨rfl,e⟩ | ⟨rfl,e⟩
    . rw [e]; exact Dx h.hu hf
    . rw [e]; exact(Dy (hnot h.hu hf)).symm
  rw [e]
  have l:=h.rows
  have n:=zM tb.a.a
  rw [hl] at c d
  refine⟨?_,λ w hw=>hg w ?_,d (x8 _) (λ _ h=>absurd h v6),by simp only [L3] at c; omega⟩
  . show Tk (qM k m1.b.a) _ _
    rw [hm]; exact IU h f g
  . have:=(T2.1 hw).1
    rw [hm] at this; exact this
theorem goes {p:bK} {k:Nat} {m:aA} {s:StoreT} {tb:aZ} {e:Int} {t:bK} {m':aA} {tb':aZ} (hk:Tk m.b.a m.a.a.a tb.a.a) (hg:Gx k m.b.a) (hl:p.b.a= []) (h:fo p k m s tb=(e,t,m',tb')):
    Tk m'.b.a m'.a.a.a tb'.a.a/\Gt m'.b.a/\Li t.b.a tb'.a.a/\X t.a.a.a<=X p.a.a.a+1/\jN t.b.a m'.b.a tb'.a.a<=302:=by
  obtain⟨a,b,_⟩:=rF hk (by rw [hl]; exact x8 _) (by rw [hl]; exact λ _ h=>absurd h v6) hg h
  have c:=Ci hk p.b.a
  have d:X p.b.a=0:=by rw [hl]; rfl
  exact⟨a.tk,a.gt,a.b,a.out,Y⟩
open List renaming flatMap_append->u0
open Sv renaming q->O6
open _root_.Go.Proofs.Tryz renaming call36->V2,call84->V3,isAgg34->E0,isAgg44->E6,isAgg47->I3,sizeOf47->J0,underlying50->S5
section
open Go.RowKit
def jK (f:bK) (j:dK) (a:aA) (g:StoreT) (d:aZ):Int × bK × aA × aZ:=
 bnd (jl a j.k) λ b=>bnd (eD b.a.f.a j.f) λ o=>if o.2=Zk then(0,f,aA.q (bD.q a.a.l a.a.r a.a.t a.a.s a.a.g (O a.a.b.a) (O a.a.a.a) (O b.a.f.a) b.a.k a.a.u a.a.j a.a.e) (O a.b.a),d) else if((j.f:Nat):Int) < ((b.a.k:Nat):Int) then(0,f,aA.q (bD.q a.a.l a.a.r a.a.t a.a.s a.a.g (O a.a.b.a) (O a.a.a.a) (O b.a.f.a) b.a.k a.a.u a.a.j a.a.e) (O a.b.a),d) else bnd (dX (aA.q (bD.q a.a.l a.a.r a.a.t a.a.s a.a.g (O a.a.b.a) (O a.a.a.a) (O b.a.f.a) b.a.k a.a.u a.a.j a.a.e) (O a.b.a)) j.f) λ k=>if k.2=Zk then bnd (List.getD a.a.a.a (U k.1) ZZ) λ l=>bnd (fV f (df.q l.f (O l.a.a)) (aA.q (bD.q a.a.l a.a.r a.a.t a.a.s a.a.g (O a.a.b.a) (O a.a.a.a) (O b.a.f.a) b.a.k a.a.u a.a.j a.a.e) (O a.b.a)) g) λ m=>(m.1,bK.q (dL.q (O m.2.a.a.a) (O f.a.b.a) f.a.e) (O f.b.a),aA.q (bD.q a.a.l a.a.r a.a.t a.a.s a.a.g (O a.a.b.a) (O a.a.a.a) (O b.a.f.a) b.a.k a.a.u a.a.j a.a.e) (O a.b.a),d) else bnd (bX (aA.q (bD.q a.a.l a.a.r a.a.t a.a.s a.a.g (O a.a.b.a) (O a.a.a.a) (O b.a.f.a) b.a.k a.a.u a.a.j a.a.e) (O a.b.a)) j.f) λ h=>if h.2=Zk then(0,f,aA.q (bD.q a.a.l a.a.r a.a.t a.a.s a.a.g (O a.a.b.a) (O a.a.a.a) (O b.a.f.a) b.a.k a.a.u a.a.j a.a.e) (O a.b.a),d) else bnd (jA (aA.q (bD.q a.a.l a.a.r a.a.t a.a.s a.a.g (O a.a.b.a) (O a.a.a.a) (O b.a.f.a) b.a.k a.a.u a.a.j a.a.e) (O a.b.a)) j) λ n=>if n=Zk then(0,bK.q (dL.q (O (f.a.a.a++ [(dK.q 4 a.a.l 0 0 4 0 0 0 j.f 0 0 0 0 0 0 J (au.q [] []) (O []) (O []) (O []))])) (O f.a.b.a) f.a.e) (O f.b.a),aA.q (bD.q a.a.l a.a.r a.a.t a.a.s a.a.g (O a.a.b.a) (O a.a.a.a) (O b.a.f.a) b.a.k a.a.u a.a.j a.a.e) (O a.b.a),d) else bnd (nX j.a.a) λ i=>if i.2=0 then bnd (fo f j.f (aA.q (bD.q a.a.l a.a.r a.a.t a.a.s a.a.g (O a.a.b.a) (O a.a.a.a) (O b.a.f.a) b.a.k a.a.u a.a.j a.a.e) (O (t8 (U h.1) a.b.a++((bA.q j.f (O j.a.a) (O i.1) 0)::r6 (U h.1) a.b.a)))) g d) λ c=>if c.1=0 then bnd (dQ (bK.q (dL.q (O c.2.1.a.a.a) (O f.a.b.a) f.a.e) (O c.2.1.b.a)) (aA.q (bD.q a.a.l a.a.r a.a.t a.a.s a.a.g (O a.a.b.a) (O c.2.2.1.a.a.a) (O b.a.f.a) b.a.k a.a.u a.a.j a.a.e) (O c.2.2.1.b.a)) g c.2.2.2) λ e=>(e.1,bK.q (dL.q (O e.2.1.a.a.a) (O f.a.b.a) f.a.e) (O e.2.1.b.a),aA.q (bD.q a.a.l a.a.r a.a.t a.a.s a.a.g (O a.a.b.a) (O e.2.2.1.a.a.a) (O b.a.f.a) b.a.k a.a.u a.a.j a.a.e) (O e.2.2.1.b.a),e.2.2.2) else(c.1,bK.q (dL.q (O c.2.1.a.a.a) (O f.a.b.a) f.a.e) (O c.2.1.b.a),aA.q (bD.q a.a.l a.a.r a.a.t a.a.s a.a.g (O a.a.b.a) (O c.2.2.1.a.a.a) (O b.a.f.a) b.a.k a.a.u a.a.j a.a.e) (O c.2.2.1.b.a),c.2.2.2) else(i.2,f,aA.q (bD.q a.a.l a.a.r a.a.t a.a.s a.a.g (O a.a.b.a) (O a.a.a.a) (O b.a.f.a) b.a.k a.a.u a.a.j a.a.e) (O a.b.a),d)
theorem yH (w D g0) (Z8:bK) (aL aM Z1 bv aG ai aj) (b:dK) (aH gD ak bz gF aQ dE bB gG aS h) (a:aA) (Z4 Q j p Z6 bJ bL F u B R) (g:StoreT) (Z3 Z7 S) (r:aZ) (K L E r0) (r1:bK) (r2:aA) (r3:aZ) (H:Own w D w [blk g0 [Zq (Zw ⟨h,0,Zv⟩), W aL (X Z8.a.a.a) aM, W bv (X Z8.a.b.a) aG, V Z8.a.e, W ai (X Z8.b.a) aj] 92,row aL (X Z8.a.a.a) aM (q0 bU.J Z1) 47 21,sepL (q0 Kg Z1),jD ai (X Z8.b.a) aj (q0 dC.J Z8.b.a) 216 2,blk h (kB a Z4 (X a.a.b.a) Q j (X a.a.a.a) p bJ (X a.a.f.a) bL a.a.k R F (X a.b.a) u S) 80,row j (X a.a.a.a) p (q0 bf.J Z6) 60 2,sepL (q0 J9 Z6),row bJ (X a.a.f.a) bL (q0 (eN .u64) a.a.f.a) 32 1,row F (X a.b.a) u (q0 aW.J B) 99 4,sepL (q0 J5 B),blk R [W Z3 (X g.a.a) Z7] 27,blk S [W K (X r.a.a) L] 114,row K (X r.a.a) L (q0 aB.J E) 164 6,sepL (q0 J4 E)]) (Z9:r7 bU.abs Z1=Z8.a.a.a) (bZ:Ro w D λ w'=>bP w' 6 bv (X Z8.a.b.a) (q0 aY.J Z8.a.b.a)) (mq:X Z8.a.b.a<=aG/\X Z8.a.b.a<=9223372036854775807) (iV:gD=X b.a.a) (cz:Ro w D λ w'=>bP w' 6 aH (X b.a.a) (q0 aY.J b.a.a)) (mr:X b.a.a<=ak/\X b.a.a<=9223372036854775807) (dS:r7 aR.abs dE=b.l.a) (iW:gF=X b.l.a) (iX:Ro w D λ w'=>bP w' 3 bz (X b.l.a) (q0 aR.J dE)) (mD:X b.l.a<=aQ/\X b.l.a<=9223372036854775807) (dU:∀ x ∈ dE,Ro w D (λ w'=>bP w' 2 x.a.A (X x.a.a) (q0 ay.J x.a.a))/\(X x.a.a<=x.a.c/\X x.a.a<=9223372036854775807)) (iY:gG=X b.b.a) (iZ:Ro w D λ w'=>bP w' 2 bB (X b.b.a) (q0 bO.J b.b.a)) (mE:X b.b.a<=aS/\X b.b.a<=9223372036854775807) (dV:Ro w D λ w'=>bP w' 2 Z4 (X a.a.b.a) (q0 bO.J a.a.b.a)) (j3:X a.a.b.a<=Q/\X a.a.b.a<=9223372036854775807) (Z5:r7 bf.abs Z6=a.a.a.a) (G:r7 aW.abs B=a.b.a) (ax:Ro w D λ w'=>bP w' 2 Z3 (X g.a.a) (q0 ay.J g.a.a)) (ja:X g.a.a<=Z7/\X g.a.a<=9223372036854775807) (I:r7 aB.abs E=r.a.a) (pR:Tk a.b.a a.a.a.a r.a.a) (pU:Gt a.b.a) (pV:Z8.b.a= []) (pW:X a.b.a+X a.a.a.a<=6) (pX:X r.a.a<=6) (pY:X Z8.b.a<=0/\X Z8.a.a.a<=1000/\X Z8.a.b.a<=100/\X g.a.a<=4000/\X a.a.b.a<=1000/\X a.a.f.a<=999) (p8: ¬ (b.e=3)\/X b.a.a<=24) (p9:b.e=3) (hr:jK Z8 b a g r=(r0,r1,r2,r3)):
    Calls Tryz.prog 39 #[vP g0 0, Zx (Zc (iF b.e b.G b.C b.I b.y b.F b.z b.r b.f b.k b.t b.s b.g b.u b.E b.D b.j.a b.j.b aH gD ak bz gF aQ bB gG aS))] w (dM λ v w'=> ∃ dW dY cB dZ d9 ed ek cZ eu eB eF eG dh eH eO dm,v=vI r0/\Own w D w' [blk g0 [vP h 0, W dW (X r1.a.a.a) dY, W bv (X Z8.a.b.a) aG, V Z8.a.e, W dZ (X r1.b.a) d9] 92,row dW (X r1.a.a.a) dY (q0 bU.J cB) 47 21,sepL (q0 Kg cB),jD dZ (X r1.b.a) d9 (q0 dC.J r1.b.a) 216 2,blk h (kB a Z4 (X a.a.b.a) Q ed (X r2.a.a.a) ek eu (X r2.a.f.a) eB r2.a.k R eF (X r2.b.a) eG S) 80,row ed (X r2.a.a.a) ek (q0 bf.J cZ) 60 2,sepL (q0 J9 cZ),row eu (X r2.a.f.a) eB (q0 (eN .u64) r2.a.f.a) 32 1,row eF (X r2.b.a) eG (q0 aW.J dh) 99 4,sepL (q0 J5 dh),blk R [W Z3 (X g.a.a) Z7] 27,blk S [W eH (X r3.a.a) eO] 114,row eH (X r3.a.a) eO (q0 aB.J dm) 164 6,sepL (q0 J4 dm)]/\(r7 bU.abs cB=r1.a.a.a)/\(r7 bf.abs cZ=r2.a.a.a)/\(r7 aW.abs dh=r2.b.a)/\(r7 aB.abs dm=r3.a.a)):=by
 subst iV iW iY
 have mi:=bg Z9
 have mo:=bg dS
 have jY:=bg Z5
 have jZ:=bg G
 have gH:=bg I
 have mG:=zr 1 H
 have mH:=H.rowCQ (i:=3) Z
 have j4:=zr 5 H
 have j5:=zr 7 H
 have j6:=zr 8 H
 refine cb Tryz.func39 ?_
 refine sr ?_
 refine cu (mF b aH ak bz aQ bB aS) 47 H ?_
 intro bn qb mI
 refine An Z (JG ?_)
 have mJ:=mI.pb [5,6,7,8,9,10]
 refine mX 9 [] (JP J3) mJ ?_
 intro qc mK
 refine qv 0 Z Z (qp g0 0 1 Z (qp g0 0 2 Z (ql 3 Z 1 S3 Z Z Z (qp bn 9 4 Z (ql 5 Z 0 E3 Z Z Z ?_)))))
 have mM:=mK.pf [9,12]
 obtain⟨d,aI⟩:∃ q,jl a b.k=q:=⟨_,Z⟩
 obtain⟨qf,kg,oD,ko,oF⟩:=Ko mM
 refine qd 6 Z (J6 Tryz.call75 Z (uN _ _ h a Z4 Q j p bJ bL F u R S b.k d kg f2 aI) ?_)
 rintro _ qg ⟨az,aC,rfl,kr,gI⟩
 have ku:=ko _ _ kr
 have oG:=zr 1 ku
 replace gI:X d.a.f.a<=X a.a.f.a:=gI
 have kv:=ku.pb [0,1,11,12,13,14]
 refine⟨.inr ⟨_,kv⟩, ?_⟩
 refine qn (JK (JG (JG ?_)))
 refine mX 15 [] (JP (JP J3)) kv ?_
 intro qh mO
 refine qv 0 Z Z (qp g0 0 1 Z (qp g0 0 2 Z (ql 3 Z 1 S3 Z Z Z (qp h 0 4 Z (qp h 0 5 Z (qp h 7 6 Z (ql 7 Z 9 Tryz.isAgg35 Z Z Z (qp bn 8 8 Z (ql 9 Z 0 E3 Z Z Z ?_)))))))))
 obtain⟨⟨gz,jc⟩,aJ⟩:∃ q:Int × Bool,eD d.a.f.a b.f=q:=⟨_,Z⟩
 obtain⟨qi,kw,oH,ky,kz⟩:=JJ mO
 refine qd 10 Z (J6 Tryz.call76 Z (kP _ _ az (X d.a.f.a) aC d.a.f.a b.f gz jc kw (kz _ 10 _ Z bQ) Z Y aJ) ?_)
 rintro _ qj ⟨rfl,kC,gJ⟩
 have kD:=ky _ _ kC
 replace gJ:0<=gz/\gz<=(X d.a.f.a:Int):=gJ
 refine⟨.inr ⟨_,kD⟩, ?_⟩
 refine qv 11 Z Z (qk (vI gz) 12 Z (qk (V jc) 13 Z (qa 14 Z Z (qa 15 Z Z (qn (JK (JG ?_)))))))
 refine mX 15 [] (JP (JP J3)) kD ?_
 intro qm jd
 refine qv 0 Z Z (qv 1 Z Z ?_)
 rcases Nf (jc) with M | M
 refine JO (rs:= []) 2 Z Z Z M f1 (JO (rs:= []) 3 Z Z Z M f1 (JO (rs:= []) 4 Z Z Z M f1 (JO (rs:= []) 5 Z Z Z M f1 (JO (rs:= []) 6 Z Z Z M f1 (JO (rs:= []) 7 Z Z Z M f1 (JO (rs:= []) 8 Z Z Z M f1 (JO (rs:= []) 9 Z Z Z M f1 (JO (rs:= []) 10 Z Z Z M f1 (JO (rs:= []) 11 Z Z Z M f1 (JO (rs:= []) 12 Z Z Z M f1 (qt (v:= V Zk) 13 Z (λ _ _=>JL Z M Z) (qn (JK (jt (sr (An Z (rt (tR (rs ?_)))))))))))))))))))
 have mP:=jd.px [] [0] [10,13,14,5,6,7,8]
 obtain⟨rfl,rfl,rfl,rfl⟩:=fO (zj hr (show _=(0,Z8,aA.q (bD.q a.a.l a.a.r a.a.t a.a.s a.a.g (O a.a.b.a) (O a.a.a.a) (O d.a.f.a) d.a.k a.a.u a.a.j a.a.e) (O a.b.a),r) from N (ae aI) (N (ae aJ) (ip M)))).symm
 exact⟨aL,aM,Z1,ai,aj,j,p,Z6,az,aC,F,u,B,K,L,E,Z,mP,Z9,Z5,G,I⟩
 refine JQ (v:=vP bn 8) (rs:= []) 2 Z Z Z M f1 (λ _ _=>yk) (JQ (v:=vU b.f) (rs:= []) 3 Z Z Z M f1 (λ _ ⟨_,H9⟩=>JS Z (bT.one E3 (Kk (H9.cls (i:=0) Z) Z))) (JQ (v:=vP g0 0) (rs:= []) 4 Z Z Z M f1 (λ _ _=>JM Z) (JQ (v:=vP g0 0) (rs:= []) 5 Z Z Z M f1 (λ _ _=>yk) (JQ (v:=vP g0 0) (rs:= []) 6 Z Z Z M f1 (λ _ _=>yk) (JQ (v:=vP h 0) (rs:= []) 7 Z Z Z M f1 (λ _ ⟨_,H9⟩=>JS Z (bT.one S3 (Kk (H9.cls (i:=1) Z) Z))) (JQ (v:=vP h 0) (rs:= []) 8 Z Z Z M f1 (λ _ _=>yk) (JQ (v:=vP h 0) (rs:= []) 9 Z Z Z M f1 (λ _ _=>yk) (JQ (v:=vP h 8) (rs:= []) 10 Z Z Z M f1 (λ _ _=>yk) (JQ (v:=vU d.a.k) (rs:= []) 11 Z Z Z M f1 (λ _ ⟨_,H9⟩=>JS Z (bT.one E3 (Kk (H9.cls (i:=9) Z) Z))) (JQ (v:= Zb ((b.f:Int) < (d.a.k:Int))) (rs:= []) 12 Z Z Z M f1 (λ _ _=>yk) (qt (v:= Zb ((b.f:Int) < (d.a.k:Int))) 13 Z (λ _ _=>JH Z M Z) (qn (JK ?_)))))))))))))
 by_cases bN:(b.f:Int) < (d.a.k:Int)
 refine jT (dT bN) (sr (An Z (rt (tR (rs ?_)))))
 have mQ:=jd.px [] [0] [10,13,14,5,6,7,8]
 obtain⟨rfl,rfl,rfl,rfl⟩:=fO (zj hr (show _=(0,Z8,aA.q (bD.q a.a.l a.a.r a.a.t a.a.s a.a.g (O a.a.b.a) (O a.a.a.a) (O d.a.f.a) d.a.k a.a.u a.a.j a.a.e) (O a.b.a),r) from N (ae aI) (N (ae aJ) (N (eP M) (ip bN))))).symm
 exact⟨aL,aM,Z1,ai,aj,j,p,Z6,az,aC,F,u,B,K,L,E,Z,mQ,Z9,Z5,G,I⟩
 refine jF (dF bN) (sk (JG (JG ?_)))
 refine mX 15 [] (JP (JP J3)) jd ?_
 intro qo mR
 refine qv 0 Z Z (qp g0 0 1 Z (qp g0 0 2 Z (ql 3 Z 1 S3 Z Z Z (qp bn 8 4 Z (ql 5 Z 0 E3 Z Z Z ?_)))))
 have je:=mR.pf [9]
 have oI:=zr 11 je
 obtain⟨⟨bq,dO⟩,aN⟩:∃ q:Int × Bool,dX (aA.q (bD.q a.a.l a.a.r a.a.t a.a.s a.a.g (O a.a.b.a) (O a.a.a.a) (O d.a.f.a) d.a.k a.a.u a.a.j a.a.e) (O a.b.a)) b.f=q:=⟨_,Z⟩
 obtain⟨qw,kE,oJ,kF,gK⟩:=Kb je
 refine qd 6 Z (J6 Tryz.call77 Z (nL _ _ h (aA.q (bD.q a.a.l a.a.r a.a.t a.a.s a.a.g (O a.a.b.a) (O a.a.a.a) (O d.a.f.a) d.a.k a.a.u a.a.j a.a.e) (O a.b.a)) Z4 Q j p Z6 az aC F u R S b.f bq dO kE Z5 (gK _ 10 _ Z bQ) Y (λ x9 h9=>⟨gK _ 11 _ Z (bM (P8.2 ⟨x9,h9,b3⟩) bQ),dH (φ:=λ _=>_) je (i:=12) Z (bM (P8.2 ⟨x9,h9,b3⟩) dP)⟩) f2 aN) ?_)
 rintro _ qx ⟨rfl,kG,gL,gM⟩
 have mU:=kF _ _ kG
 replace gL:0<=bq/\bq<=(X a.a.a.a:Int):=gL
 replace gM:Bool.toNat dO=0\/bq < (X a.a.a.a:Int):=gM
 have bR:=mU.pb [0,10,11,12,13,14]
 refine⟨.inr ⟨_,bR⟩, ?_⟩
 refine qv 7 Z Z (qk (vI bq) 8 Z (qk (V dO) 9 Z (qa 10 Z Z (qa 11 Z Z (qn (JK (sr (Mn Z ?_))))))))
 rcases Nf (dO) with aP | aP
 have h87t:Bool.toNat dO=1:=by rw [aP]; rfl
 refine jT aP (sr (Mz Z (Mz Z (Kz (vP g0 0) (Kz (vP g0 0) (Lz (vP h 0) bR 1 S3 (Kz (vP h 0) (Kz (vP h 0) (Kz (vP h 6) (Lz (W j (X a.a.a.a) p) bR 9 E0 (fw (vJ (U bq)) (JN (e:=bq) (JM Z) Y) ?_)))))))))))
 obtain⟨aa,dG⟩:=dJ (ls:=Z6) (i:=U bq) bf.len f6 (bR.rds (i:=11) Z) f4
 have gN:=gq Z5 dG
 have oK:X aa.a.a<=aa.a.c/\X aa.a.a<=9223372036854775807:=dH bR (i:=12) Z (φ:=λ _=>_) (bM (P8.2 ⟨aa,E1 dG,b3⟩) dP)
 have oL:X aa.a.a<=24:=Tk.hld (hs:=a.a.a.a) f8 gN
 refine fw (Zq (Zw ⟨ab j,ao j+(U bq) *2,Zv⟩)) (JU (kH) Z Z ((bR.rds (i:=11) Z).addr (i:=U bq) Y) Y) (fw (Zx (Zc (bf.J aa))) (JS Z (JW (cs:=(bf.J aa)) Tryz.isAgg60 Tryz.sizeOf60 ((bR.rds (i:=11) Z).elem bf.len dG f6))) ?_)
 have mV:=bR.pf [1,2,3,9,5]
 obtain⟨⟨kI,eQ⟩,eT⟩:∃ q:Int × bK,fV Z8 (df.q aa.f (O aa.a.a)) (aA.q (bD.q a.a.l a.a.r a.a.t a.a.s a.a.g (O a.a.b.a) (O a.a.a.a) (O d.a.f.a) d.a.k a.a.u a.a.j a.a.e) (O a.b.a)) g=q:=⟨_,Z⟩
 obtain⟨qy,kJ,gP,kK,kL⟩:=Ld mV
 refine cl Tryz.call78 (sF _ _ g0 Z8 aL aM Z1 bv aG ai aj (df.q aa.f (O aa.a.a)) aa.a.A (X aa.a.a) aa.a.c h (aA.q (bD.q a.a.l a.a.r a.a.t a.a.s a.a.g (O a.a.b.a) (O a.a.a.a) (O d.a.f.a) d.a.k a.a.u a.a.j a.a.e) (O a.b.a)) Z4 Q j p az aC F u S R g Z3 Z7 kI eQ kJ Z9 (gP _ bZ) Y Z (kL _ 7 _ Z (bM (P8.2 ⟨aa,E1 dG,b3⟩) bQ)) Y (gP _ ax) Y f2 eT) ?_
 rintro _ oM ⟨kM,kN,kQ,rfl,jf,eU,eX⟩
 have gQ:=kK _ _ jf
 have mW:=bg eU
 have mY:=zr 1 gQ
 replace eX:X eQ.a.a.a<=X Z8.a.a.a+1:=eX
 refine An Z (rt (tR (rs ?_)))
 have kR:=gQ.px [] [5] [3,11,12,10,13,14,4,7,8,9]
 obtain⟨rfl,rfl,rfl,rfl⟩:=fO (zj hr (show _=(kI,bK.q (dL.q (O eQ.a.a.a) (O Z8.a.b.a) Z8.a.e) (O Z8.b.a),aA.q (bD.q a.a.l a.a.r a.a.t a.a.s a.a.g (O a.a.b.a) (O a.a.a.a) (O d.a.f.a) d.a.k a.a.u a.a.j a.a.e) (O a.b.a),r) from N (ae aI) (N (ae aJ) (N (eP M) (N (iN bN) (N (ae aN) (N (ip aP) (N (ae (bu gN)) (ae eT))))))))).symm
 exact⟨kM,kN,kQ,ai,aj,j,p,Z6,az,aC,F,u,B,K,L,E,Z,kR,eU,Z5,G,I⟩
 have h87t:Bool.toNat dO=0:=by rw [aP]; rfl
 refine jF aP (sk (JG ?_))
 refine mX 15 [] (JP J3) bR ?_
 intro oN kS
 refine qv 0 Z Z (qp g0 0 1 Z (qp g0 0 2 Z (ql 3 Z 1 S3 Z Z Z (qp bn 8 4 Z (ql 5 Z 0 E3 Z Z Z ?_)))))
 have dI:=kS.pf [9]
 have mZ:=zr 13 dI
 obtain⟨⟨C,bC⟩,aD⟩:∃ q:Int × Bool,bX (aA.q (bD.q a.a.l a.a.r a.a.t a.a.s a.a.g (O a.a.b.a) (O a.a.a.a) (O d.a.f.a) d.a.k a.a.u a.a.j a.a.e) (O a.b.a)) b.f=q:=⟨_,Z⟩
 obtain⟨oO,jg,ng,jh,dn⟩:=Kb dI
 refine qd 6 Z (J6 Tryz.call79 Z (jv _ _ h (aA.q (bD.q a.a.l a.a.r a.a.t a.a.s a.a.g (O a.a.b.a) (O a.a.a.a) (O d.a.f.a) d.a.k a.a.u a.a.j a.a.e) (O a.b.a)) Z4 Q j p az aC F u B R S b.f C bC jg G (dn _ 12 _ Z bQ) Y (λ x9 h9=>⟨dn _ 13 _ Z (bM (P8.2 ⟨x9,h9,b3⟩) bQ),dH (φ:=λ _=>_) dI (i:=14) Z (bM (P8.2 ⟨x9,h9,b3⟩) dP),dn _ 13 _ Z (bM (P8.2 ⟨x9,h9, .tail _ b3⟩) bQ),dH (φ:=λ _=>_) dI (i:=14) Z (bM (P8.2 ⟨x9,h9, .tail _ b3⟩) dP)⟩) f2 aD) ?_)
 rintro _ oP ⟨rfl,ji,eY,eZ⟩
 have kT:=jh _ _ ji
 replace eY:0<=C/\C<=(X a.b.a:Int):=eY
 replace eZ:Bool.toNat bC=0\/C < (X a.b.a:Int):=eZ
 have fe:=kT.pb [0,10,11,12,13,14]
 refine⟨.inr ⟨_,fe⟩, ?_⟩
 refine qv 7 Z Z (qk (vI C) 8 Z (qk (V bC) 9 Z (qa 10 Z Z (qa 11 Z Z (qn (JK (JG (sr (Mn Z ?_)))))))))
 rcases Nf (bC) with af | af
 have h135t:Bool.toNat bC=1:=by rw [af]; rfl
 refine jT af (sr (An Z (rt (tR (rs ?_)))))
 have kU:=fe.px [] [0] [10,13,14,5,6,7,8]
 obtain⟨rfl,rfl,rfl,rfl⟩:=fO (zj hr (show _=(0,Z8,aA.q (bD.q a.a.l a.a.r a.a.t a.a.s a.a.g (O a.a.b.a) (O a.a.a.a) (O d.a.f.a) d.a.k a.a.u a.a.j a.a.e) (O a.b.a),r) from N (ae aI) (N (ae aJ) (N (eP M) (N (iN bN) (N (ae aN) (N (eP aP) (N (ae aD) (ip af))))))))).symm
 exact⟨aL,aM,Z1,ai,aj,j,p,Z6,az,aC,F,u,B,K,L,E,Z,kU,Z9,Z5,G,I⟩
 have h135t:Bool.toNat bC=0:=by rw [af]; rfl
 refine jF af (sk (JG (JG ?_)))
 refine mX 15 [] (JP (JP J3)) fe ?_
 intro oQ kV
 refine qv 0 Z Z (qp g0 0 1 Z (qp g0 0 2 Z (ql 3 Z 1 S3 Z Z Z (qt (v:= Zx (Zc (mF b aH ak bz aQ bB aS))) 4 Z (λ _ ⟨_,H9⟩=>JS Z (JW (cs:=(mF b aH ak bz aQ bB aS)) I3 J0 ((H9.cls (i:=0) Z).lit (k:=0) (m:=21) Z))) ?_))))
 have kW:=kV.pf [9]
 obtain⟨gT,aK⟩:∃ q,jA (aA.q (bD.q a.a.l a.a.r a.a.t a.a.s a.a.g (O a.a.b.a) (O a.a.a.a) (O d.a.f.a) d.a.k a.a.u a.a.j a.a.e) (O a.b.a)) b=q:=⟨_,Z⟩
 obtain⟨oU,jk,aT,jm,ni⟩:=Kb kW
 refine qd 5 Z (J6 Tryz.call80 Z (uR _ _ h (aA.q (bD.q a.a.l a.a.r a.a.t a.a.s a.a.g (O a.a.b.a) (O a.a.a.a) (O d.a.f.a) d.a.k a.a.u a.a.j a.a.e) (O a.b.a)) Z4 Q j p az aC F u R S b aH (X b.a.a) ak bz (X b.l.a) aQ dE bB (X b.b.a) aS gT jk (aT _ dV) Y Z (aT _ cz) Y dS Z (aT _ iX) Y (λ x9 h9=>⟨aT _ (dU x9 h9).1,(dU x9 h9).2⟩) Z (aT _ iZ) Y f2 aK) ?_)
 rintro _ oV ⟨rfl,jo⟩
 have kX:=jm _ _ jo
 have bV:=kX.pb [0,10,11,12,13,14]
 refine⟨.inr ⟨_,bV⟩, ?_⟩
 refine qn (JK ?_)
 rcases Nf (gT) with aO | aO
 refine jT aO (sr (Mz Z (Kz (vP bn 8) (Lz (vU b.f) bV 0 E3 (Kz (Zx (Zc (iF 4 0 0 0 4 0 0 0 b.f 0 0 0 0 0 0 J [] [] Zv 0 0 Zv 0 0 Zv 0 0))) ?_)))))
 refine WL.do Z (J6 Tryz.call81 Z ?_ (λ _ _ k=>k))
 refine cb Tryz.func81 ?_
 refine sr ?_
 refine cu (iF 4 0 0 0 4 0 0 0 b.f 0 0 0 0 0 0 J [] [] Zv 0 0 Zv 0 0 Zv 0 0) 47 bV ?_
 intro fu oW fA
 refine ns (Mz Z (Kz (vP g0 0) (Kz (vP g0 0) (Lz (vP h 0) fA 2 S3 (Kz (vP h 0) (Kz (vP h 0) (Kz (vP h 0) (Lz (vI a.a.l) fA 10 Tryz.isAgg3 (Kz (vP fu 1) ?_)))))))))
 refine cO [vI a.a.l] 1 fA Tryz.sizeOf3 ?_
 intro oZ gU
 refine ns (Kz (vP fu 18) (Lz (W Zv 0 0) gU 0 E6 ?_))
 obtain⟨o5,jq,nk,jr,nu⟩:=JJ gU
 refine cl V2 (jb _ _ Zv 0 0 [] [] jq (λ _ _=>bP.nil _ _ _) Z i7 Z) ?_
 rintro _ o6 ⟨Z2,Z0,rfl,jw⟩
 have gV:=jr _ _ jw
 have ny:=zr 0 gV
 refine Kz (vP fu 18) ?_
 have kY:=gV.pf [1]
 refine cO [W Z2 0 Z0] 18 kY Tryz.sizeOf44 ?_
 intro o7 kZ
 refine nt ?_
 refine mX 17 [8,12] J3 kZ ?_
 intro o8 lc
 refine Ki (v:=vP g0 0) 0 Z f1 (λ _=>JM Z) (qv 1 Z Z (qp g0 0 2 Z (qp g0 1 3 Z (qp g0 1 4 Z (ql 5 Z 3 Tryz.isAgg50 Z Z Z (qt (v:= Zx (Zc (iF 4 a.a.l 0 0 4 0 0 0 b.f 0 0 0 0 0 0 J [] [] Z2 0 Z0 Zv 0 0 Zv 0 0))) 6 Z (λ _ ⟨_,H9⟩=>JS Z (JW (cs:=(iF 4 a.a.l 0 0 4 0 0 0 b.f 0 0 0 0 0 0 J [] [] Z2 0 Z0 Zv 0 0 Zv 0 0)) I3 J0 ((H9.cls (i:=0) Z).lit (k:=0) (m:=21) Z))) ?_))))))
 refine qd 7 Z (Kt (cs:=(iF 4 a.a.l 0 0 4 0 0 0 b.f 0 0 0 0 0 0 J [] [] Z2 0 Z0 Zv 0 0 Zv 0 0)) (t:=47) (sz:=21) (m:=1) lc Z Z Za Z f6 ?_)
 intro lg fB fC
 replace fC:=Ke (y:=row lg 1 1 (q0 bU.J ([(bU.q 4 a.a.l 0 0 4 0 0 0 b.f 0 0 0 0 0 0 J (au.q [] []) (O6 Z2 Z0 []) (O6 Zv 0 []) (O6 Zv 0 []))])) 47 21) Z fC
 have gW:=fC.pb [0]
 refine⟨.inr ⟨_,gW⟩, ?_⟩
 have lh:Own w D fB (sepL (q0 Kc [])::_):=gW.sepNil
 have ll:Own w D fB (row Zv 0 0 (q0 aR.J []) 70 3::_):=lh.free (cK 70 3)
 have lm:Own w D fB (row Zv 0 0 (q0 bO.J []) 83 2::_):=ll.free (cK 83 2)
 have gX:=lm.pf [7,8,4,1]
 refine qd 8 Z (J7 (k:=X Z8.a.a.a) (m:=1) (ug) gX Z Z (fq S5 (gX.rds (i:=20) Z) (di bU.one ([(bU.q 4 a.a.l 0 0 4 0 0 0 b.f 0 0 0 0 0 0 J (au.q [] []) (O6 Z2 Z0 []) (O6 Zv 0 []) (O6 Zv 0 []))]))) Z Y (s:=X (Z8.a.a.a++ [(dK.q 4 a.a.l 0 0 4 0 0 0 b.f 0 0 0 0 0 0 J (au.q [] []) (O []) (O []) (O []))])) f7 (u0).symm ?_)
 intro gY gZ lq lu
 have lv:=lu.pf [1,2,3,4,5]
 have lw:Own w D lq (sepL (q0 Kg (Z1++ [(bU.q 4 a.a.l 0 0 4 0 0 0 b.f 0 0 0 0 0 0 J (au.q [] []) (O6 Z2 Z0 []) (O6 Zv 0 []) (O6 Zv 0 []))]))::_):=lv.sepAdd (L2:= [row Z2 0 Z0 (q0 aY.J []) 68 6,row Zv 0 0 (q0 aR.J []) 70 3,row Zv 0 0 (q0 bO.J []) 83 2,sepL (q0 Kc [])]) (u0 (f:=Kg) (xs:=Z1) (ys:= [(bU.q 4 a.a.l 0 0 4 0 0 0 b.f 0 0 0 0 0 0 J (au.q [] []) (O6 Z2 Z0 []) (O6 Zv 0 []) (O6 Zv 0 []))])).symm
 have nz:X (Z8.a.a.a++ [(dK.q 4 a.a.l 0 0 4 0 0 0 b.f 0 0 0 0 0 0 J (au.q [] []) (O []) (O []) (O []))])=X Z8.a.a.a+1:=by simp only [o2,q5,L3]
 have nA:=bg (jP (es:= [(bU.q 4 a.a.l 0 0 4 0 0 0 b.f 0 0 0 0 0 0 J (au.q [] []) (O6 Z2 Z0 []) (O6 Zv 0 []) (O6 Zv 0 []))]) (ms:= [(dK.q 4 a.a.l 0 0 4 0 0 0 b.f 0 0 0 0 0 0 J (au.q [] []) (O []) (O []) (O []))]) Z9 Z)
 refine⟨.inl f1, ?_⟩
 refine Ki (v:=vP g0 0) 9 Z f1 (λ _=>yk) (Ki (v:=vP g0 1) 10 Z f1 (λ _=>yk) (Ki (v:=vP g0 1) 11 Z f1 (λ _=>yk) ?_))
 have lC:=lw.pf [4]
 refine qe 12 Z (Do.store (vs:= [W gY (X (Z8.a.a.a++ [(dK.q 4 a.a.l 0 0 4 0 0 0 b.f 0 0 0 0 0 0 J (au.q [] []) (O []) (O []) (O []))])) gZ]) (o:=1) lC Z Z Tryz.sizeOf50 Z Z Z Z ?_)
 intro o9 lD
 refine⟨.inl f1, ?_⟩
 refine qn (Kl (res0 Z) (nt (JG ?_)))
 have lF:=lD.px [] [3,16] []
 refine JI (An Z (rt (tR (rs ?_))))
 have lG:=lF.px [0,2] [3] [10,13,14,5,6,7,8]
 obtain⟨rfl,rfl,rfl,rfl⟩:=fO (zj hr (show _=(0,bK.q (dL.q (O (Z8.a.a.a++ [(dK.q 4 a.a.l 0 0 4 0 0 0 b.f 0 0 0 0 0 0 J (au.q [] []) (O []) (O []) (O []))])) (O Z8.a.b.a) Z8.a.e) (O Z8.b.a),aA.q (bD.q a.a.l a.a.r a.a.t a.a.s a.a.g (O a.a.b.a) (O a.a.a.a) (O d.a.f.a) d.a.k a.a.u a.a.j a.a.e) (O a.b.a),r) from N (ae aI) (N (ae aJ) (N (eP M) (N (iN bN) (N (ae aN) (N (eP aP) (N (ae aD) (N (eP af) (N (ae aK) (ip aO))))))))))).symm
 exact⟨gY,gZ,(Z1++ [(bU.q 4 a.a.l 0 0 4 0 0 0 b.f 0 0 0 0 0 0 J (au.q [] []) (O6 Z2 Z0 []) (O6 Zv 0 []) (O6 Zv 0 []))]),ai,aj,j,p,Z6,az,aC,F,u,B,K,L,E,Z,lG,(jP (es:= [(bU.q 4 a.a.l 0 0 4 0 0 0 b.f 0 0 0 0 0 0 J (au.q [] []) (O6 Z2 Z0 []) (O6 Zv 0 []) (O6 Zv 0 []))]) (ms:= [(dK.q 4 a.a.l 0 0 4 0 0 0 b.f 0 0 0 0 0 0 J (au.q [] []) (O []) (O []) (O []))]) Z9 Z),Z5,G,I⟩
 refine jF aO (sk (sr (Kz (vP bn 18) (Lz (W aH (X b.a.a) ak) bV 0 E6 ?_))))
 obtain⟨⟨P,bE⟩,aU⟩:∃ q:(List aF) × Int,nX b.a.a=q:=⟨_,Z⟩
 obtain⟨pg,jy,jB,jC,nC⟩:=JJ bV
 refine cl Tryz.call37 (CJ _ _ aH (X b.a.a) ak b.a.a P bE jy (jB _ cz) Z Y aU) ?_
 rintro _ pq ⟨aV,aX,rfl,jE⟩
 have fD:=jC _ _ jE
 have nD:=zr 0 fD
 have nE:X P<=X b.a.a:=uX aU
 refine Mz Z (Kz (W aV (X P) aX) (Kz (vI bE) (Az Z (An Z (JG (sr (Mz Z (fw (Zb (¬ (bE=0))) (JZ (e:= !(Zy (bE=0))) yk ZY) (nt ?_)))))))))
 by_cases bW:bE=0
 refine jF (dF (Nc bW)) (sk (JG ?_))
 have lH:=fD.pf [1,2,6,7,10]
 refine Gq [23] (JP J3) lH ?_
 intro pu lI
 refine qv 0 Z Z (qp g0 0 1 Z (qp g0 0 2 Z (ql 3 Z 1 S3 Z Z Z (qv 4 Z Z (qp g0 0 5 Z (qp g0 0 6 Z (ql 7 Z 1 S3 Z Z Z (qp h 0 8 Z (qp h 18 9 Z (ql 10 Z 4 Tryz.isAgg77 Z Z Z (qv 11 Z Z (qp bn 8 12 Z (ql 13 Z 0 E3 Z Z Z (qp bn 18 14 Z (ql 15 Z 0 E6 Z Z Z (qv 17 Z Z ?_))))))))))))))))
 obtain⟨pz,jG,jH,jI,nG⟩:=JJ lI
 refine qd 16 Z (J6 V2 Z (jb _ _ aH (X b.a.a) ak b.a.a b.a.a jG (jH _ cz) Z Y Z) ?_)
 rintro _ pE ⟨bF,bG,rfl,jJ⟩
 have ib:=jI _ _ jJ
 have nH:=zr 0 ib
 have ic:=ib.pf [1,2,3,4,5]
 refine⟨.inr ⟨_,ic⟩, ?_⟩
 refine qk (Zx #[vU b.f, W bF (X b.a.a) bG, W aV (X P) aX,vI 0]) 18 Z ?_
 refine qd 19 Z (KQ (cs:= [vU b.f, W bF (X b.a.a) bG, W aV (X P) aX,vI 0]) (t:=99) (sz:=4) (m:=1) ic Z Z Za Z ?_)
 intro ig pF fE
 replace fE:=Ke (y:=ma ig 1 (q0 aW.J ([(aW.q b.f (O6 bF bG b.a.a) (O6 aV aX P) 0)])) 99 4) Z fE
 have ik:=fE.pf [1,2,3,4,5]
 refine⟨.inr ⟨_,ik⟩, ?_⟩
 have lJ:=ik.pf [16,5,17,6,7]
 obtain⟨pG,jL,nI,jM,nJ⟩:=Ld lJ
 refine qd 20 Z (J6 Tryz.call82 Z (y7 _ _ F (X a.b.a) u B a.b.a C (U C) ig (aW.q b.f (O6 bF bG b.a.a) (O6 aV aX P) 0) (bA.q b.f (O b.a.a) (O P) 0) jL Y G Z Y Y Y) ?_)
 rintro _ pI ⟨il,iq,rfl,jO⟩
 have lK:=jM _ _ jO
 have nK:X (t8 (U C) B++((aW.q b.f (O6 bF bG b.a.a) (O6 aV aX P) 0)::r6 (U C) B))=X (t8 (U C) a.b.a++((bA.q b.f (O b.a.a) (O P) 0)::r6 (U C) a.b.a)):=by exact bg (jQ (z:=(bA.q b.f (O b.a.a) (O P) 0)) G Z)
 have nM:X (t8 (U C) a.b.a++((bA.q b.f (O b.a.a) (O P) 0)::r6 (U C) a.b.a))=X a.b.a+1:=by simp only [o2,o0,q5,o1]; omega
 have iw:=lK.pf [2,3,4,5,6]
 refine⟨.inr ⟨_,iw⟩, ?_⟩
 refine qp h 0 21 Z (qp h 18 22 Z ?_)
 have lL:=iw.pf [4]
 refine qe 23 Z (Do.store (vs:= [W il (X (t8 (U C) a.b.a++((bA.q b.f (O b.a.a) (O P) 0)::r6 (U C) a.b.a))) iq]) (o:=18) lL Z Z Tryz.sizeOf77 Z Z Z Z ?_)
 intro pJ iy
 refine⟨.inl f1, ?_⟩
 refine qn (JK (JG (sr (Mz Z (Kz (vP bn 8) (Lz (vU b.f) iy 1 E3 ?_))))))
 obtain⟨dw,dx⟩:=zW (m:=(aA.q (bD.q a.a.l a.a.r a.a.t a.a.s a.a.g (O a.a.b.a) (O a.a.a.a) (O d.a.f.a) d.a.k a.a.u a.a.j a.a.e) (O a.b.a))) (rs:=r.a.a) (o:=b.a.a) (l:=P) f8 f8 aN aP aD af (uq aK aO g5 g5 g5).1 Y Y
 replace dw:Tk (t8 (U C) a.b.a++((bA.q b.f (O b.a.a) (O P) 0)::r6 (U C) a.b.a)) a.a.a.a r.a.a:=dw
 replace dx:Gx b.f (t8 (U C) a.b.a++((bA.q b.f (O b.a.a) (O P) 0)::r6 (U C) a.b.a)):=dx
 have lM:=iy.pb [0,13,14,5,6,3,4,10,11,1,12]
 obtain⟨⟨bY,av,ag,bi⟩,bS⟩:∃ q:Int × bK × aA × aZ,fo Z8 b.f (aA.q (bD.q a.a.l a.a.r a.a.t a.a.s a.a.g (O a.a.b.a) (O a.a.a.a) (O d.a.f.a) d.a.k a.a.u a.a.j a.a.e) (O (t8 (U C) a.b.a++((bA.q b.f (O b.a.a) (O P) 0)::r6 (U C) a.b.a)))) g r=q:=⟨_,Z⟩
 obtain⟨pK,jR,fF,jS,nN⟩:=KP lM
 refine cl Tryz.call83 (qL _ _ g0 Z8 aL aM Z1 bv aG ai aj b.f h (aA.q (bD.q a.a.l a.a.r a.a.t a.a.s a.a.g (O a.a.b.a) (O a.a.a.a) (O d.a.f.a) d.a.k a.a.u a.a.j a.a.e) (O (t8 (U C) a.b.a++((bA.q b.f (O b.a.a) (O P) 0)::r6 (U C) a.b.a)))) Z4 Q j p Z6 az aC il iq (t8 (U C) B++((aW.q b.f (O6 bF bG b.a.a) (O6 aV aX P) 0)::r6 (U C) B)) R g Z3 Z7 S r K L E bY av ag bi jR Z9 (fF _ bZ) Y Z5 (jQ (z:=(bA.q b.f (O b.a.a) (O P) 0)) G Z) (fF _ ax) Y I f8 (by first | omega | exact Tk.n f8) (by first | omega | exact Tk.rows f8) f2 bS) ?_
 rintro _ pM ⟨iA,iB,iC,iD,iE,iG,iH,iI,iJ,iK,iL,iM,iO,iP,rfl,jU,dz,dA,dB,dD⟩
 have bH:=jS _ _ jU
 have nO:=bg dz
 have nP:=bg dA
 have nQ:=bg dB
 have nR:=bg dD
 have nS:=zr 1 bH
 have nT:=bH.rowCQ (i:=3) Z
 have nU:=zr 5 bH
 have nV:=zr 7 bH
 have nW:=zr 11 bH
 obtain⟨fG,fH,fI,fJ,fK⟩:=goes dw dx j0 bS
 replace fG:Tk ag.b.a ag.a.a.a bi.a.a:=fG
 replace fH:Gt ag.b.a:=fH
 replace fI:Li av.b.a bi.a.a:=fI
 replace fJ:X av.a.a.a<=X Z8.a.a.a+1:=fJ
 replace fK:jN av.b.a ag.b.a bi.a.a<=302:=fK
 refine An Z (JG ?_)
 have iQ:=bH.px [] [13] []
 refine JI (Mz Z (fw (Zb (¬ (bY=0))) (JZ (e:= !(Zy (bY=0))) yk ZY) (nt ?_)))
 by_cases dN:bY=0
 refine jF (dF (Nc dN)) (sk (sr (Mz Z ?_)))
 obtain⟨⟨iR,fM,fP,iT⟩,fQ⟩:∃ q:Int × bK × aA × aZ,dQ (bK.q (dL.q (O av.a.a.a) (O Z8.a.b.a) Z8.a.e) (O av.b.a)) (aA.q (bD.q a.a.l a.a.r a.a.t a.a.s a.a.g (O a.a.b.a) (O ag.a.a.a) (O d.a.f.a) d.a.k a.a.u a.a.j a.a.e) (O ag.b.a)) g bi=q:=⟨_,Z⟩
 obtain⟨pO,jV,fT,jW,nY⟩:=KP iQ
 refine cl V3 (nZ _ _ g0 (bK.q (dL.q (O av.a.a.a) (O Z8.a.b.a) Z8.a.e) (O av.b.a)) iA iB iC bv aG iD iE h (aA.q (bD.q a.a.l a.a.r a.a.t a.a.s a.a.g (O a.a.b.a) (O ag.a.a.a) (O d.a.f.a) d.a.k a.a.u a.a.j a.a.e) (O ag.b.a)) Z4 Q iG iH iI az aC iJ iK iL R g Z3 Z7 S bi iM iO iP iR fM fP iT jV dz (fT _ bZ) Y dA dB (fT _ ax) Y dD f8 f8 f8 (by first | omega | exact Tk.n f8) (by first | omega | exact Tk.rows f8) f2 fQ) ?_
 rintro _ pQ ⟨lN,lQ,lS,lT,lU,lV,lW,lX,lY,lZ,l5,l6,l7,l8,rfl,jX,fU,fZ,gm,gp⟩
 have bI:=jW _ _ jX
 have og:=bg fU
 have oh:=bg fZ
 have ol:=bg gm
 have om:=bg gp
 have oo:=zr 1 bI
 have oq:=bI.rowCQ (i:=3) Z
 have ou:=zr 5 bI
 have ow:=zr 7 bI
 have oz:=zr 11 bI
 refine An Z (rt (rs ?_))
 have l9:=bI.pb [7,8,9,10,11,12]
 obtain⟨rfl,rfl,rfl,rfl⟩:=fO (zj hr (show _=(iR,bK.q (dL.q (O fM.a.a.a) (O Z8.a.b.a) Z8.a.e) (O fM.b.a),aA.q (bD.q a.a.l a.a.r a.a.t a.a.s a.a.g (O a.a.b.a) (O fP.a.a.a) (O d.a.f.a) d.a.k a.a.u a.a.j a.a.e) (O fP.b.a),iT) from N (ae aI) (N (ae aJ) (N (eP M) (N (iN bN) (N (ae aN) (N (eP aP) (N (ae aD) (N (eP af) (N (ae aK) (N (eP aO) (N (ae aU) (N (ip bW) (N (ae bS) (N (ip dN) (ae fQ))))))))))))))))
 exact⟨lN,lQ,lS,lT,lU,lV,lW,lX,az,aC,lY,lZ,l5,l6,l7,l8,Z,l9,fU,fZ,gm,gp⟩
 refine jT (dT dN) (sr (Mz Z (An Z (rt (tR (rs ?_))))))
 have mf:=iQ.pb [7,8,9,10,11,12]
 obtain⟨rfl,rfl,rfl,rfl⟩:=fO (zj hr (show _=(bY,bK.q (dL.q (O av.a.a.a) (O Z8.a.b.a) Z8.a.e) (O av.b.a),aA.q (bD.q a.a.l a.a.r a.a.t a.a.s a.a.g (O a.a.b.a) (O ag.a.a.a) (O d.a.f.a) d.a.k a.a.u a.a.j a.a.e) (O ag.b.a),bi) from N (ae aI) (N (ae aJ) (N (eP M) (N (iN bN) (N (ae aN) (N (eP aP) (N (ae aD) (N (eP af) (N (ae aK) (N (eP aO) (N (ae aU) (N (ip bW) (N (ae bS) (iN dN)))))))))))))))
 exact⟨iA,iB,iC,iD,iE,iG,iH,iI,az,aC,iJ,iK,iL,iM,iO,iP,Z,mf,dz,dA,dB,dD⟩
 refine jT (dT bW) (sr (Mz Z (An Z (rt (tR (rs ?_))))))
 have mg:=fD.px [] [0,1] [11,14,15,6,7,8,9]
 obtain⟨rfl,rfl,rfl,rfl⟩:=fO (zj hr (show _=(bE,Z8,aA.q (bD.q a.a.l a.a.r a.a.t a.a.s a.a.g (O a.a.b.a) (O a.a.a.a) (O d.a.f.a) d.a.k a.a.u a.a.j a.a.e) (O a.b.a),r) from N (ae aI) (N (ae aJ) (N (eP M) (N (iN bN) (N (ae aN) (N (eP aP) (N (ae aD) (N (eP af) (N (ae aK) (N (eP aO) (N (ae aU) (iN bW))))))))))))).symm
 exact⟨aL,aM,Z1,ai,aj,j,p,Z6,az,aC,F,u,B,K,L,E,Z,mg,Z9,Z5,G,I⟩
def iB (e:bK) (g:dK) (a:aA) (l:StoreT) (f:aZ):Int × bK × aA × aZ:=
 bnd (dX a g.f) λ b=>bnd (bX a g.f) λ q=>if b.2=Zk then bnd (List.getD a.a.a.a (U b.1) ZZ) λ o=>bnd (if g.D=Zk then bnd (ji (bK.q (dL.q (O (e.a.a.a++ [(dK.q 6 a.a.l 0 0 0 0 0 0 g.f 0 0 0 0 0 0 J (au.q [] []) (O []) (O []) (O []))])) (O e.a.b.a) e.a.e) (O e.b.a)) o.a.a (aA.q (bD.q a.a.l a.a.r a.a.t a.a.s a.a.g (O a.a.b.a) (O (t8 (U b.1) a.a.a.a++r6 ((U b.1)+1) a.a.a.a)) (O a.a.f.a) a.a.k a.a.u a.a.j a.a.e) (O a.b.a))) λ p=>p.a.b.a else e.a.b.a) λ sJrbbtbJ=>bnd (dU (aA.q (bD.q a.a.l a.a.r a.a.t a.a.s a.a.g (O a.a.b.a) (O (t8 (U b.1) a.a.a.a++r6 ((U b.1)+1) a.a.a.a)) (O a.a.f.a) a.a.k a.a.u a.a.j a.a.e) (O a.b.a)) g.f) λ h=>bnd (gy (aA.q (bD.q a.a.l a.a.r a.a.t a.a.s a.a.g (O a.a.b.a) (O (t8 (U b.1) a.a.a.a++r6 ((U b.1)+1) a.a.a.a)) (O a.a.f.a) a.a.k a.a.u a.a.j a.a.e) (O h.b.a)) g.f) λ i=>bnd (eO (bK.q (dL.q (O (e.a.a.a++ [(dK.q 6 a.a.l 0 0 0 0 0 0 g.f 0 0 0 0 0 0 J (au.q [] []) (O []) (O []) (O []))])) (O sJrbbtbJ) e.a.e) (O e.b.a)) g.f (aA.q (bD.q a.a.l a.a.r a.a.t a.a.s a.a.g (O a.a.b.a) (O (t8 (U b.1) a.a.a.a++r6 ((U b.1)+1) a.a.a.a)) (O i.a.f.a) a.a.k a.a.u a.a.j a.a.e) (O h.b.a)) f) λ m=>bnd (dQ (bK.q (dL.q (O (e.a.a.a++ [(dK.q 6 a.a.l 0 0 0 0 0 0 g.f 0 0 0 0 0 0 J (au.q [] []) (O []) (O []) (O []))])) (O sJrbbtbJ) e.a.e) (O m.1.b.a)) (aA.q (bD.q a.a.l a.a.r a.a.t a.a.s a.a.g (O a.a.b.a) (O (t8 (U b.1) a.a.a.a++r6 ((U b.1)+1) a.a.a.a)) (O i.a.f.a) a.a.k a.a.u a.a.j a.a.e) (O h.b.a)) l m.2) λ c=>(c.1,bK.q (dL.q (O c.2.1.a.a.a) (O sJrbbtbJ) e.a.e) (O c.2.1.b.a),aA.q (bD.q a.a.l a.a.r a.a.t a.a.s a.a.g (O a.a.b.a) (O c.2.2.1.a.a.a) (O i.a.f.a) a.a.k a.a.u a.a.j a.a.e) (O c.2.2.1.b.a),c.2.2.2) else if q.2=Zk then bnd (dU a g.f) λ j=>bnd (gy (aA.q a.a (O j.b.a)) g.f) λ k=>bnd (eO (bK.q (dL.q (O (e.a.a.a++ [(dK.q 6 a.a.l 0 0 0 0 0 0 g.f 0 0 0 0 0 0 J (au.q [] []) (O []) (O []) (O []))])) (O e.a.b.a) e.a.e) (O e.b.a)) g.f (aA.q (bD.q a.a.l a.a.r a.a.t a.a.s a.a.g (O a.a.b.a) (O a.a.a.a) (O k.a.f.a) a.a.k a.a.u a.a.j a.a.e) (O j.b.a)) f) λ n=>bnd (dQ (bK.q (dL.q (O (e.a.a.a++ [(dK.q 6 a.a.l 0 0 0 0 0 0 g.f 0 0 0 0 0 0 J (au.q [] []) (O []) (O []) (O []))])) (O e.a.b.a) e.a.e) (O n.1.b.a)) (aA.q (bD.q a.a.l a.a.r a.a.t a.a.s a.a.g (O a.a.b.a) (O a.a.a.a) (O k.a.f.a) a.a.k a.a.u a.a.j a.a.e) (O j.b.a)) l n.2) λ d=>(d.1,bK.q (dL.q (O d.2.1.a.a.a) (O e.a.b.a) e.a.e) (O d.2.1.b.a),aA.q (bD.q a.a.l a.a.r a.a.t a.a.s a.a.g (O a.a.b.a) (O d.2.2.1.a.a.a) (O k.a.f.a) a.a.k a.a.u a.a.j a.a.e) (O d.2.2.1.b.a),d.2.2.2) else(0,bK.q (dL.q (O (e.a.a.a++ [(dK.q 6 a.a.l 0 0 0 0 0 0 g.f 0 0 0 0 0 0 J (au.q [] []) (O []) (O []) (O []))])) (O e.a.b.a) e.a.e) (O e.b.a),a,f)
theorem xk (w D Z3) (u:bK) (gz gB Z0 aj ah ak av) (d:dK) (bG gD bH bI gF bJ bS bL gG bN g) (a:aA) (z B r E p F G Z6 L R h) (j:StoreT) (S I l) (C:aZ) (M Z5 Z7 r0) (r1:bK) (r2:aA) (r3:aZ) (H:Own w D w [blk Z3 [Zq (Zw ⟨g,0,Zv⟩), W gz (X u.a.a.a) gB, W aj (X u.a.b.a) ah, V u.a.e, W ak (X u.b.a) av] 92,row gz (X u.a.a.a) gB (q0 bU.J Z0) 47 21,sepL (q0 Kg Z0),row aj (X u.a.b.a) ah (q0 aY.J u.a.b.a) 68 6,jD ak (X u.b.a) av (q0 dC.J u.b.a) 216 2,blk g (kB a z (X a.a.b.a) B r (X a.a.a.a) E F (X a.a.f.a) G a.a.k h Z6 (X a.b.a) L l) 80,row r (X a.a.a.a) E (q0 bf.J p) 60 2,sepL (q0 J9 p),row F (X a.a.f.a) G (q0 (eN .u64) a.a.f.a) 32 1,row Z6 (X a.b.a) L (q0 aW.J R) 99 4,sepL (q0 J5 R),blk h [W S (X j.a.a) I] 27,blk l [W M (X C.a.a) Z5] 114,row M (X C.a.a) Z5 (q0 aB.J Z7) 164 6,sepL (q0 J4 Z7)]) (aC:r7 bU.abs Z0=u.a.a.a) (iq:gD=X d.a.a) (mJ:Ro w D λ w'=>bP w' 6 bG (X d.a.a) (q0 aY.J d.a.a)) (mK:X d.a.a<=bH/\X d.a.a<=9223372036854775807) (iw:r7 aR.abs bS=d.l.a) (iy:gF=X d.l.a) (mM:Ro w D λ w'=>bP w' 3 bI (X d.l.a) (q0 aR.J bS)) (mO:X d.l.a<=bJ/\X d.l.a<=9223372036854775807) (mP:∀ x ∈ bS,Ro w D (λ w'=>bP w' 2 x.a.A (X x.a.a) (q0 ay.J x.a.a))/\(X x.a.a<=x.a.c/\X x.a.a<=9223372036854775807)) (iA:gG=X d.b.a) (mQ:Ro w D λ w'=>bP w' 2 bL (X d.b.a) (q0 bO.J d.b.a)) (mR:X d.b.a<=bN/\X d.b.a<=9223372036854775807) (P:r7 bf.abs p=a.a.a.a) (Z2:r7 aW.abs R=a.b.a) (aD:Ro w D λ w'=>bP w' 2 S (X j.a.a) (q0 ay.J j.a.a)) (iC:X j.a.a<=I/\X j.a.a<=9223372036854775807) (Z4:r7 aB.abs Z7=C.a.a) (qU:Tk a.b.a a.a.a.a C.a.a) (qV:Gt a.b.a) (qW:u.b.a= []) (qX:X a.b.a+X a.a.a.a<=6) (qZ:X C.a.a<=6) (q8:X u.b.a<=0/\X u.a.a.a<=1000/\X u.a.b.a<=100/\X j.a.a<=4000/\X a.a.b.a<=1000/\X a.a.f.a<=999) (q9: ¬ (d.e=3)\/X d.a.a<=24) (hr:iB u d a j C=(r0,r1,r2,r3)):
    Calls Tryz.prog 40 #[vP Z3 0, Zx (Zc (iF d.e d.G d.C d.I d.y d.F d.z d.r d.f d.k d.t d.s d.g d.u d.E d.D d.j.a d.j.b bG gD bH bI gF bJ bL gG bN))] w (dM λ v w'=> ∃ bV bW bi bY bZ cz cB cZ df bn dh dm dn dw bq dx dz bv,v=vI r0/\Own w D w' [blk Z3 [vP g 0, W bV (X r1.a.a.a) bW, W bY (X r1.a.b.a) bZ, V u.a.e, W cz (X r1.b.a) cB] 92,row bV (X r1.a.a.a) bW (q0 bU.J bi) 47 21,sepL (q0 Kg bi),row bY (X r1.a.b.a) bZ (q0 aY.J r1.a.b.a) 68 6,jD cz (X r1.b.a) cB (q0 dC.J r1.b.a) 216 2,blk g (kB a z (X a.a.b.a) B cZ (X r2.a.a.a) df dh (X r2.a.f.a) dm a.a.k h dn (X r2.b.a) dw l) 80,row cZ (X r2.a.a.a) df (q0 bf.J bn) 60 2,sepL (q0 J9 bn),row dh (X r2.a.f.a) dm (q0 (eN .u64) r2.a.f.a) 32 1,row dn (X r2.b.a) dw (q0 aW.J bq) 99 4,sepL (q0 J5 bq),blk h [W S (X j.a.a) I] 27,blk l [W dx (X r3.a.a) dz] 114,row dx (X r3.a.a) dz (q0 aB.J bv) 164 6,sepL (q0 J4 bv)]/\(r7 bU.abs bi=r1.a.a.a)/\(r7 bf.abs bn=r2.a.a.a)/\(r7 aW.abs bq=r2.b.a)/\(r7 aB.abs bv=r3.a.a)):=by
 subst iq iy iA
 have mH:=bg aC
 have mI:=bg iw
 have jM:=bg P
 have jO:=bg Z2
 have gH:=bg Z4
 have mU:=zr 1 H
 have mW:=zr 3 H
 have mY:=H.rowCQ (i:=4) Z
 have jQ:=zr 6 H
 have jR:=zr 8 H
 have jS:=zr 9 H
 refine cb Tryz.func40 ?_
 refine sr ?_
 refine cu (mF d bG bH bI bJ bL bN) 47 H ?_
 intro ai rf jU
 refine Ar Z (Mz Z (Kz (vP ai 8) (Lz (vU d.f) jU 0 E3 (Kz (Zx (Zc (iF 6 0 0 0 0 0 0 0 d.f 0 0 0 0 0 0 J [] [] Zv 0 0 Zv 0 0 Zv 0 0))) ?_))))
 refine WL.do Z (J6 Tryz.call81 Z ?_ (λ _ _ k=>k))
 refine cb Tryz.func81 ?_
 refine sr ?_
 refine cu (iF 6 0 0 0 0 0 0 0 d.f 0 0 0 0 0 0 J [] [] Zv 0 0 Zv 0 0 Zv 0 0) 47 jU ?_
 intro iD rq iE
 refine ns (Mz Z (Kz (vP Z3 0) (Kz (vP Z3 0) (Lz (vP g 0) iE 2 S3 (Kz (vP g 0) (Kz (vP g 0) (Kz (vP g 0) (Lz (vI a.a.l) iE 7 Tryz.isAgg3 (Kz (vP iD 1) ?_)))))))))
 refine cO [vI a.a.l] 1 iE Tryz.sizeOf3 ?_
 intro ru jV
 refine ns (Kz (vP iD 18) (Lz (W Zv 0 0) jV 0 E6 ?_))
 obtain⟨ry,jW,pW,jX,pX⟩:=JJ jV
 refine cl V2 (jb _ _ Zv 0 0 [] [] jW (λ _ _=>bP.nil _ _ _) Z i7 Z) ?_
 rintro _ rz ⟨Z9,Z1,rfl,jY⟩
 have jZ:=jX _ _ jY
 have pY:=zr 0 jZ
 refine Kz (vP iD 18) ?_
 have mZ:=jZ.pf [1]
 refine cO [W Z9 0 Z1] 18 mZ Tryz.sizeOf44 ?_
 intro rA ng
 refine nt ?_
 refine mX 18 [8,12] J3 ng ?_
 intro rC ni
 refine Ki (v:=vP Z3 0) 0 Z f1 (λ _=>JM Z) (qv 1 Z Z (qp Z3 0 2 Z (qp Z3 1 3 Z (qp Z3 1 4 Z (ql 5 Z 3 Tryz.isAgg50 Z Z Z (qt (v:= Zx (Zc (iF 6 a.a.l 0 0 0 0 0 0 d.f 0 0 0 0 0 0 J [] [] Z9 0 Z1 Zv 0 0 Zv 0 0))) 6 Z (λ _ ⟨_,H9⟩=>JS Z (JW (cs:=(iF 6 a.a.l 0 0 0 0 0 0 d.f 0 0 0 0 0 0 J [] [] Z9 0 Z1 Zv 0 0 Zv 0 0)) I3 J0 ((H9.cls (i:=0) Z).lit (k:=0) (m:=21) Z))) ?_))))))
 refine qd 7 Z (Kt (cs:=(iF 6 a.a.l 0 0 0 0 0 0 d.f 0 0 0 0 0 0 J [] [] Z9 0 Z1 Zv 0 0 Zv 0 0)) (t:=47) (sz:=21) (m:=1) ni Z Z Za Z f6 ?_)
 intro nk iG iH
 replace iH:=Ke (y:=row nk 1 1 (q0 bU.J ([(bU.q 6 a.a.l 0 0 0 0 0 0 d.f 0 0 0 0 0 0 J (au.q [] []) (O6 Z9 Z1 []) (O6 Zv 0 []) (O6 Zv 0 []))])) 47 21) Z iH
 have j3:=iH.pb [0]
 refine⟨.inr ⟨_,j3⟩, ?_⟩
 have nu:Own w D iG (sepL (q0 Kc [])::_):=j3.sepNil
 have ny:Own w D iG (row Zv 0 0 (q0 aR.J []) 70 3::_):=nu.free (cK 70 3)
 have nz:Own w D iG (row Zv 0 0 (q0 bO.J []) 83 2::_):=ny.free (cK 83 2)
 have j4:=nz.pf [7,8,4,1]
 refine qd 8 Z (J7 (k:=X u.a.a.a) (m:=1) (ug) j4 Z Z (fq S5 (j4.rds (i:=21) Z) (di bU.one ([(bU.q 6 a.a.l 0 0 0 0 0 0 d.f 0 0 0 0 0 0 J (au.q [] []) (O6 Z9 Z1 []) (O6 Zv 0 []) (O6 Zv 0 []))]))) Z Y (s:=X (u.a.a.a++ [(dK.q 6 a.a.l 0 0 0 0 0 0 d.f 0 0 0 0 0 0 J (au.q [] []) (O []) (O []) (O []))])) f7 (u0).symm ?_)
 intro aS aT nA nC
 have nD:=nC.pf [1,2,3,4,5]
 have nE:Own w D nA (sepL (q0 Kg (Z0++ [(bU.q 6 a.a.l 0 0 0 0 0 0 d.f 0 0 0 0 0 0 J (au.q [] []) (O6 Z9 Z1 []) (O6 Zv 0 []) (O6 Zv 0 []))]))::_):=nD.sepAdd (L2:= [row Z9 0 Z1 (q0 aY.J []) 68 6,row Zv 0 0 (q0 aR.J []) 70 3,row Zv 0 0 (q0 bO.J []) 83 2,sepL (q0 Kc [])]) (u0 (f:=Kg) (xs:=Z0) (ys:= [(bU.q 6 a.a.l 0 0 0 0 0 0 d.f 0 0 0 0 0 0 J (au.q [] []) (O6 Z9 Z1 []) (O6 Zv 0 []) (O6 Zv 0 []))])).symm
 have p8:X (u.a.a.a++ [(dK.q 6 a.a.l 0 0 0 0 0 0 d.f 0 0 0 0 0 0 J (au.q [] []) (O []) (O []) (O []))])=X u.a.a.a+1:=by simp only [o2,q5,L3]
 have p9:=bg (jP (es:= [(bU.q 6 a.a.l 0 0 0 0 0 0 d.f 0 0 0 0 0 0 J (au.q [] []) (O6 Z9 Z1 []) (O6 Zv 0 []) (O6 Zv 0 []))]) (ms:= [(dK.q 6 a.a.l 0 0 0 0 0 0 d.f 0 0 0 0 0 0 J (au.q [] []) (O []) (O []) (O []))]) aC Z)
 refine⟨.inl f1, ?_⟩
 refine Ki (v:=vP Z3 0) 9 Z f1 (λ _=>yk) (Ki (v:=vP Z3 1) 10 Z f1 (λ _=>yk) (Ki (v:=vP Z3 1) 11 Z f1 (λ _=>yk) ?_))
 have nG:=nE.pf [4]
 refine qe 12 Z (Do.store (vs:= [W aS (X (u.a.a.a++ [(dK.q 6 a.a.l 0 0 0 0 0 0 d.f 0 0 0 0 0 0 J (au.q [] []) (O []) (O []) (O []))])) aT]) (o:=1) nG Z Z Tryz.sizeOf50 Z Z Z Z ?_)
 intro rE nH
 refine⟨.inl f1, ?_⟩
 refine qn (Kl (res0 Z) (nt (JG ?_)))
 have nI:=nH.px [] [3,17] []
 refine mX 16 [] (JP J3) nI ?_
 intro rF nJ
 refine qv 0 Z Z (qp Z3 0 1 Z (qp Z3 0 2 Z (ql 3 Z 0 S3 Z Z Z (qp ai 8 4 Z (ql 5 Z 3 E3 Z Z Z ?_)))))
 have iI:=nJ.pf [6]
 have qb:=zr 7 iI
 obtain⟨⟨b,bz⟩,aL⟩:∃ q:Int × Bool,dX a d.f=q:=⟨_,Z⟩
 obtain⟨rG,j5,qc,j6,gI⟩:=Kb iI
 refine qd 6 Z (J6 Tryz.call77 Z (nL _ _ g a z B r E p F G Z6 L h l d.f b bz j5 P (gI _ 6 _ Z bQ) Y (λ x9 h9=>⟨gI _ 7 _ Z (bM (P8.2 ⟨x9,h9,b3⟩) bQ),dH (φ:=λ _=>_) iI (i:=8) Z (bM (P8.2 ⟨x9,h9,b3⟩) dP)⟩) f2 aL) ?_)
 rintro _ rH ⟨rfl,kg,gJ,gK⟩
 have nK:=j6 _ _ kg
 replace gJ:0<=b/\b<=(X a.a.a.a:Int):=gJ
 replace gK:Bool.toNat bz=0\/b < (X a.a.a.a:Int):=gK
 have ko:=nK.pf [1,2,3,4,5,6]
 refine⟨.inr ⟨_,ko⟩, ?_⟩
 refine qv 7 Z Z (qk (vI b) 8 Z (qk (V bz) 9 Z (qa 10 Z Z (qa 11 Z Z (qn (JK (JG ?_)))))))
 refine mX 16 [] (JP J3) ko ?_
 intro rJ nM
 refine qv 0 Z Z (qp Z3 0 1 Z (qp Z3 0 2 Z (ql 3 Z 0 S3 Z Z Z (qp ai 8 4 Z (ql 5 Z 3 E3 Z Z Z ?_)))))
 have gu:=nM.pf [6]
 have qf:=zr 10 gu
 obtain⟨⟨dA,aU⟩,bR⟩:∃ q:Int × Bool,bX a d.f=q:=⟨_,Z⟩
 obtain⟨rM,kr,qg,ku,dB⟩:=Kb gu
 refine qd 6 Z (J6 Tryz.call79 Z (jv _ _ g a z B r E F G Z6 L R h l d.f dA aU kr Z2 (dB _ 9 _ Z bQ) Y (λ x9 h9=>⟨dB _ 10 _ Z (bM (P8.2 ⟨x9,h9,b3⟩) bQ),dH (φ:=λ _=>_) gu (i:=11) Z (bM (P8.2 ⟨x9,h9,b3⟩) dP),dB _ 10 _ Z (bM (P8.2 ⟨x9,h9, .tail _ b3⟩) bQ),dH (φ:=λ _=>_) gu (i:=11) Z (bM (P8.2 ⟨x9,h9, .tail _ b3⟩) dP)⟩) f2 bR) ?_)
 rintro _ rO ⟨rfl,kv,gL,gM⟩
 have nN:=ku _ _ kv
 replace gL:0<=dA/\dA<=(X a.b.a:Int):=gL
 replace gM:Bool.toNat aU=0\/dA < (X a.b.a:Int):=gM
 have aa:=nN.pf [1,2,3,4,5,6]
 refine⟨.inr ⟨_,aa⟩, ?_⟩
 refine qv 7 Z Z (qk (vI dA) 8 Z (qk (V aU) 9 Z (qa 10 Z Z (qa 11 Z Z (qn (JK (JG (sr (Mz Z (Kz (V (!bz)) (Mz Z ?_)))))))))))
 rcases Nf (bz) with Q | Q
 have h101t:Bool.toNat bz=1:=by rw [Q]; rfl
 refine T (cn Q) (T (cn Q) (fw (V J) (JH Z (cn Q) Z) (nt (jf (sk (JG (sr (Mn Z (jT Q (sr (Mz Z (Kz (vP Z3 0) (Kz (vP Z3 0) (Lz (vP g 0) aa 0 S3 (Kz (vP g 0) (Kz (vP g 0) (Kz (vP g 6) (Lz (W r (X a.a.a.a) E) aa 6 E0 (fw (vJ (U b)) (JN (e:=b) (JM Z) Y) ?_)))))))))))))))))))
 obtain⟨K,aV⟩:=dJ (ls:=p) (i:=U b) bf.len f6 (aa.rds (i:=7) Z) f4
 have dD:=gq P aV
 have nO:X K.a.a<=K.a.c/\X K.a.a<=9223372036854775807:=dH aa (i:=8) Z (φ:=λ _=>_) (bM (P8.2 ⟨K,E1 aV,b3⟩) dP)
 have nP:X K.a.a<=24:=Tk.hld (hs:=a.a.a.a) f8 dD
 refine fw (Zq (Zw ⟨ab r,ao r+(U b) *2,Zv⟩)) (JU (kH) Z Z ((aa.rds (i:=7) Z).addr (i:=U b) Y) Y) (Kz (Zq (Zw ⟨ab r,ao r+(U b) *2+1,Zv⟩)) (fw (W K.a.A (X K.a.a) K.a.c) (JS Z (bT.one E6 (((aa.rds (i:=7) Z).elem bf.len aV f6).at_ (k:=1) Z))) (An Z (JG ?_))))
 have kw:=aa.pf [0,3,6,12,13]
 refine Gq [19] (JP (JP J3)) kw ?_
 intro qh ky
 refine qv 0 Z Z (qp Z3 0 1 Z (qp Z3 0 2 Z (ql 3 Z 0 S3 Z Z Z (qv 4 Z Z (qp Z3 0 5 Z (qp Z3 0 6 Z (ql 7 Z 0 S3 Z Z Z (qp g 0 8 Z (qp g 0 9 Z (qp g 6 10 Z (ql 11 Z 2 E0 Z Z Z (qv 12 Z Z (qv 13 Z Z (qt (v:=vI (b+1)) 14 Z (λ _ _=>JN (e:=IntKind.i64.wrap (b+1)) yk i8) ?_))))))))))))))
 have kz:=ky.pf [9,10]
 obtain⟨qi,iL,nQ,iM,nR⟩:=Ko kz
 refine qd 15 Z (J6 Tryz.call85 Z (Ay _ _ r (X a.a.a.a) E p a.a.a.a b (b+1) (U b) K iL Y P Y Y Y aV) ?_)
 rintro _ qj ⟨ax,az,rfl,iN⟩
 have gN:=iM _ _ iN
 have nS:X (t8 (U b) p++r6 ((U b)+1) p)=X (t8 (U b) a.a.a.a++r6 ((U b)+1) a.a.a.a):=by exact bg (oL P)
 have nT:X (t8 (U b) a.a.a.a++r6 ((U b)+1) a.a.a.a)+1=X a.a.a.a:=by simp only [o2,o0,o1]; omega
 have nU:=zr 2 gN
 have gP:=gN.pf [3,4,5,6,7]
 refine⟨.inr ⟨_,gP⟩, ?_⟩
 refine qp g 0 16 Z (qp g 0 17 Z (qp g 6 18 Z ?_))
 have kC:=gP.pf [2]
 refine qe 19 Z (Do.store (vs:= [W ax (X (t8 (U b) a.a.a.a++r6 ((U b)+1) a.a.a.a)) az]) (o:=6) kC Z Z Tryz.sizeOf34 Z Z Z Z ?_)
 intro qm dE
 refine⟨.inl f1, ?_⟩
 refine qn (JK (sr (Kz (vP ai 15) (Lz (V d.D) dE 2 Tryz.isAgg4 (nt ?_)))))
 obtain⟨kD,bA⟩:=zw λ aM (aF:Nat) Z8 w'=>Own w D w' [blk g (kB a z (X a.a.b.a) B ax (X (t8 (U b) a.a.a.a++r6 ((U b)+1) a.a.a.a)) az F (X a.a.f.a) G a.a.k h Z6 (X a.b.a) L l) 80,blk Z3 [vP g 0, W aS (X (u.a.a.a++ [(dK.q 6 a.a.l 0 0 0 0 0 0 d.f 0 0 0 0 0 0 J (au.q [] []) (O []) (O []) (O []))])) aT, W aM (X Z8) aF, V u.a.e, W ak (X u.b.a) av] 92,blk ai (mF d bG bH bI bJ bL bN) 47,blk h [W S (X j.a.a) I] 27,blk l [W M (X C.a.a) Z5] 114,row ax (X (t8 (U b) a.a.a.a++r6 ((U b)+1) a.a.a.a)) az (q0 bf.J (t8 (U b) p++r6 ((U b)+1) p)) 60 2,sepL (q0 J9 (t8 (U b) p++r6 ((U b)+1) p)),row K.a.A (X K.a.a) K.a.c (q0 aY.J K.a.a) 68 6,sepL (q0 Kg (Z0++ [(bU.q 6 a.a.l 0 0 0 0 0 0 d.f 0 0 0 0 0 0 J (au.q [] []) (O6 Z9 Z1 []) (O6 Zv 0 []) (O6 Zv 0 []))])),row aS (X (u.a.a.a++ [(dK.q 6 a.a.l 0 0 0 0 0 0 d.f 0 0 0 0 0 0 J (au.q [] []) (O []) (O []) (O []))])) aT (q0 bU.J (Z0++ [(bU.q 6 a.a.l 0 0 0 0 0 0 d.f 0 0 0 0 0 0 J (au.q [] []) (O6 Z9 Z1 []) (O6 Zv 0 []) (O6 Zv 0 []))])) 47 21,jD ak (X u.b.a) av (q0 dC.J u.b.a) 216 2,row F (X a.a.f.a) G (q0 (eN .u64) a.a.f.a) 32 1,row Z6 (X a.b.a) L (q0 aW.J R) 99 4,sepL (q0 J5 R),row M (X C.a.a) Z5 (q0 aB.J Z7) 164 6,sepL (q0 J4 Z7),row aM (X Z8) aF (q0 aY.J Z8) 68 6]/\X Z8<=200/\(if d.D=Zk then bnd (ji (bK.q (dL.q (O (u.a.a.a++ [(dK.q 6 a.a.l 0 0 0 0 0 0 d.f 0 0 0 0 0 0 J (au.q [] []) (O []) (O []) (O []))])) (O u.a.b.a) u.a.e) (O u.b.a)) K.a.a (aA.q (bD.q a.a.l a.a.r a.a.t a.a.s a.a.g (O a.a.b.a) (O (t8 (U b) a.a.a.a++r6 ((U b)+1) a.a.a.a)) (O a.a.f.a) a.a.k a.a.u a.a.j a.a.e) (O a.b.a))) λ iO=>iO.a.b.a else u.a.b.a)=Z8
 refine KL (λ i:(Option Addr) × Nat × (List aY)=> [(4,vI 0),(3,vP ai 0),(0,vP Z3 0)]) kD ?_ ?_
 rcases Nf (d.D) with aX | aX
 refine jT aX (JI (Mz Z (Mz Z ?_)))
 have kE:=dE.pf [1,10]
 obtain⟨dF,dG⟩:∃ q,ji (bK.q (dL.q (O (u.a.a.a++ [(dK.q 6 a.a.l 0 0 0 0 0 0 d.f 0 0 0 0 0 0 J (au.q [] []) (O []) (O []) (O []))])) (O u.a.b.a) u.a.e) (O u.b.a)) K.a.a (aA.q (bD.q a.a.l a.a.r a.a.t a.a.s a.a.g (O a.a.b.a) (O (t8 (U b) a.a.a.a++r6 ((U b)+1) a.a.a.a)) (O a.a.f.a) a.a.k a.a.u a.a.j a.a.e) (O a.b.a))=q:=⟨_,Z⟩
 obtain⟨qo,iP,nV,iQ,iR⟩:=KE kE
 refine cl Tryz.call86 (xh _ _ Z3 (bK.q (dL.q (O (u.a.a.a++ [(dK.q 6 a.a.l 0 0 0 0 0 0 d.f 0 0 0 0 0 0 J (au.q [] []) (O []) (O []) (O []))])) (O u.a.b.a) u.a.e) (O u.b.a)) aS aT aj ah ak av K.a.A (X K.a.a) K.a.c K.a.a g (aA.q (bD.q a.a.l a.a.r a.a.t a.a.s a.a.g (O a.a.b.a) (O (t8 (U b) a.a.a.a++r6 ((U b)+1) a.a.a.a)) (O a.a.f.a) a.a.k a.a.u a.a.j a.a.e) (O a.b.a)) z B ax az F G Z6 L h l dF iP (iR _ 5 _ Z bQ) Z Y f2 dG) ?_
 rintro _ qw ⟨kF,kG,rfl,iT,dI⟩
 have gQ:=iQ _ _ iT
 have nW:=zr 1 gQ
 replace dI:X dF.a.b.a<=X u.a.b.a+X K.a.a:=dI
 refine WL.nil ?_
 have kI:=gQ.px [2] [] [1]
 exact Kr (kF,kG,dF.a.b.a) ⟨Z,Z,Z,ZW⟩ (bA.2 ⟨kI,Y,N (ip aX) (ae dG)⟩)
 refine jF aX (J8 ?_)
 have kJ:=dE.pb [10]
 exact Kr (aj,ah,u.a.b.a) ⟨Z,Z,Z,ZW⟩ (bA.2 ⟨kJ,Y,eP aX⟩)
 rintro ⟨aM,aF,Z8⟩ qx iU
 show Wp _ _ _ [(4,vI 0),(3,vP ai 0),(0,vP Z3 0)] _ _
 obtain⟨kK,nX,iV⟩:=bA.1 iU
 refine JG ?_
 have kL:=kK.px [] [7] []
 have kM:=kL.pb [0,5,6,10,11,12]
 refine mX 10 [] (JP J3) kM ?_
 intro qy kN
 refine qv 0 Z Z (qp Z3 0 1 Z (qp Z3 0 2 Z (ql 3 Z 0 S3 Z Z Z (qp ai 8 4 Z (ql 5 Z 1 E3 Z Z Z ?_)))))
 have kP:=kN.pf [10,14,15]
 obtain⟨af,bB⟩:∃ q,dU (aA.q (bD.q a.a.l a.a.r a.a.t a.a.s a.a.g (O a.a.b.a) (O (t8 (U b) a.a.a.a++r6 ((U b)+1) a.a.a.a)) (O a.a.f.a) a.a.k a.a.u a.a.j a.a.e) (O a.b.a)) d.f=q:=⟨_,Z⟩
 obtain⟨qz,iW,nY,iX,og⟩:=KE kP
 refine qd 6 Z (J6 Tryz.call87 Z (mV _ _ g (aA.q (bD.q a.a.l a.a.r a.a.t a.a.s a.a.g (O a.a.b.a) (O (t8 (U b) a.a.a.a++r6 ((U b)+1) a.a.a.a)) (O a.a.f.a) a.a.k a.a.u a.a.j a.a.e) (O a.b.a)) z B ax az F G Z6 L R h l d.f af iW Z2 f2 bB) ?_)
 rintro _ qA ⟨dN,dO,kQ,rfl,iY,dR⟩
 have gT:=iX _ _ iY
 have oh:=bg dR
 have ol:=zr 1 gT
 have gU:=gT.pb [0,1,2,13,14,15]
 refine⟨.inr ⟨_,gU⟩, ?_⟩
 refine qn (JK (JG ?_))
 refine mX 10 [] (JP J3) gU ?_
 intro qB kR
 refine qv 0 Z Z (qp Z3 0 1 Z (qp Z3 0 2 Z (ql 3 Z 0 S3 Z Z Z (qp ai 8 4 Z (ql 5 Z 1 E3 Z Z Z ?_)))))
 have kS:=kR.pf [10,15]
 obtain⟨aG,dS⟩:∃ q,gy (aA.q (bD.q a.a.l a.a.r a.a.t a.a.s a.a.g (O a.a.b.a) (O (t8 (U b) a.a.a.a++r6 ((U b)+1) a.a.a.a)) (O a.a.f.a) a.a.k a.a.u a.a.j a.a.e) (O af.b.a)) d.f=q:=⟨_,Z⟩
 obtain⟨qC,iZ,om,ja,oo⟩:=Ko kS
 refine qd 6 Z (J6 Tryz.call88 Z (qY _ _ g (aA.q (bD.q a.a.l a.a.r a.a.t a.a.s a.a.g (O a.a.b.a) (O (t8 (U b) a.a.a.a++r6 ((U b)+1) a.a.a.a)) (O a.a.f.a) a.a.k a.a.u a.a.j a.a.e) (O af.b.a)) z B ax az F G dN dO h l d.f aG iZ f2 dS) ?_)
 rintro _ qD ⟨dV,dW,rfl,jc,dY⟩
 have gV:=ja _ _ jc
 have oq:=zr 1 gV
 replace dY:X aG.a.f.a<=X a.a.f.a+1:=dY
 have dZ:=gV.pb [0,1,12,13,14,15]
 refine⟨.inr ⟨_,dZ⟩, ?_⟩
 refine qn (JK (sr (Mz Z (Kz (vP ai 8) (Lz (vU d.f) dZ 1 E3 ?_)))))
 have kT:=dZ.pf [0,6,10,3,7,8]
 obtain⟨⟨aH,aN⟩,bC⟩:∃ q:bK × aZ,eO (bK.q (dL.q (O (u.a.a.a++ [(dK.q 6 a.a.l 0 0 0 0 0 0 d.f 0 0 0 0 0 0 J (au.q [] []) (O []) (O []) (O []))])) (O Z8) u.a.e) (O u.b.a)) d.f (aA.q (bD.q a.a.l a.a.r a.a.t a.a.s a.a.g (O a.a.b.a) (O (t8 (U b) a.a.a.a++r6 ((U b)+1) a.a.a.a)) (O aG.a.f.a) a.a.k a.a.u a.a.j a.a.e) (O af.b.a)) C=q:=⟨_,Z⟩
 obtain⟨qE,jd,ou,je,ow⟩:=KH kT
 refine cl Tryz.call89 (o9 _ _ Z3 (bK.q (dL.q (O (u.a.a.a++ [(dK.q 6 a.a.l 0 0 0 0 0 0 d.f 0 0 0 0 0 0 J (au.q [] []) (O []) (O []) (O []))])) (O Z8) u.a.e) (O u.b.a)) aS aT aM aF ak av d.f g (aA.q (bD.q a.a.l a.a.r a.a.t a.a.s a.a.g (O a.a.b.a) (O (t8 (U b) a.a.a.a++r6 ((U b)+1) a.a.a.a)) (O aG.a.f.a) a.a.k a.a.u a.a.j a.a.e) (O af.b.a)) z B ax az dV dW dN dO h l C M Z5 Z7 aH aN jd Z4 f2 (by first | assumption | exact Tk.snd f8) bC) ?_
 rintro _ qF ⟨kU,kV,kW,kX,kY,rfl,jg,d9,ed⟩
 have ek:=je _ _ jg
 have oz:=bg d9
 have oC:=ek.rowCQ (i:=1) Z
 have oD:=zr 4 ek
 replace ed:X aH.b.a<=X u.b.a+24:=ed
 obtain⟨eu,eB,eD,eF⟩:=yf (m:=a) (m1:=(aA.q (bD.q a.a.l a.a.r a.a.t a.a.s a.a.g (O a.a.b.a) (O (t8 (U b) a.a.a.a++r6 ((U b)+1) a.a.a.a)) (O a.a.f.a) a.a.k a.a.u a.a.j a.a.e) (O a.b.a))) (hs':=(t8 (U b) a.a.a.a++r6 ((U b)+1) a.a.a.a)) f8 f8 aL (.inl ⟨Q,Z⟩) Z bB j0 bC
 replace eu:Tk af.b.a (t8 (U b) a.a.a.a++r6 ((U b)+1) a.a.a.a) aN.a.a:=eu
 replace eB:Gt af.b.a:=eB
 replace eD:Li aH.b.a aN.a.a:=eD
 replace eF:X aH.b.a<=6:=eF
 have oF:jN aH.b.a af.b.a aN.a.a<=306:=Nat.le_trans (Ci f8 _) Y
 refine nt (JG ?_)
 have kZ:=ek.px [] [6] []
 refine JI (Mz Z ?_)
 have gW:=kZ.pf [0,8,7,1,2,13,14,11,12,6]
 have oG:=zr 13 gW
 obtain⟨⟨gX,eG,eH,gY⟩,eQ⟩:∃ q:Int × bK × aA × aZ,dQ (bK.q (dL.q (O (u.a.a.a++ [(dK.q 6 a.a.l 0 0 0 0 0 0 d.f 0 0 0 0 0 0 J (au.q [] []) (O []) (O []) (O []))])) (O Z8) u.a.e) (O aH.b.a)) (aA.q (bD.q a.a.l a.a.r a.a.t a.a.s a.a.g (O a.a.b.a) (O (t8 (U b) a.a.a.a++r6 ((U b)+1) a.a.a.a)) (O aG.a.f.a) a.a.k a.a.u a.a.j a.a.e) (O af.b.a)) j aN=q:=⟨_,Z⟩
 obtain⟨qG,jh,jk,jl,jm⟩:=KP gW
 refine cl V3 (nZ _ _ Z3 (bK.q (dL.q (O (u.a.a.a++ [(dK.q 6 a.a.l 0 0 0 0 0 0 d.f 0 0 0 0 0 0 J (au.q [] []) (O []) (O []) (O []))])) (O Z8) u.a.e) (O aH.b.a)) aS aT (Z0++ [(bU.q 6 a.a.l 0 0 0 0 0 0 d.f 0 0 0 0 0 0 J (au.q [] []) (O6 Z9 Z1 []) (O6 Zv 0 []) (O6 Zv 0 []))]) aM aF kU kV g (aA.q (bD.q a.a.l a.a.r a.a.t a.a.s a.a.g (O a.a.b.a) (O (t8 (U b) a.a.a.a++r6 ((U b)+1) a.a.a.a)) (O aG.a.f.a) a.a.k a.a.u a.a.j a.a.e) (O af.b.a)) z B ax az (t8 (U b) p++r6 ((U b)+1) p) dV dW dN dO kQ h j S I l aN kW kX kY gX eG eH gY jh (jP (es:= [(bU.q 6 a.a.l 0 0 0 0 0 0 d.f 0 0 0 0 0 0 J (au.q [] []) (O6 Z9 Z1 []) (O6 Zv 0 []) (O6 Zv 0 []))]) (ms:= [(dK.q 6 a.a.l 0 0 0 0 0 0 d.f 0 0 0 0 0 0 J (au.q [] []) (O []) (O []) (O []))]) aC Z) (jm _ 0 _ Z bQ) Y (oL P) dR (jk _ aD) Y d9 f8 f8 f8 (by first | omega | exact Tk.n f8) (by first | omega | exact Tk.rows f8) f2 eQ) ?_
 rintro _ qH ⟨lc,lg,lh,ll,lm,lq,lu,lv,lw,lC,lD,lF,lG,lH,rfl,jo,eT,eU,eX,eY⟩
 have aO:=jl _ _ jo
 have oH:=bg eT
 have oI:=bg eU
 have oJ:=bg eX
 have oK:=bg eY
 have oM:=zr 1 aO
 have oN:=aO.rowCQ (i:=3) Z
 have oO:=zr 5 aO
 have oP:=zr 7 aO
 have oQ:=zr 11 aO
 refine An Z (rt (rs ?_))
 have lI:=aO.pf [0,1,2,13,3,4,5,6,14]
 obtain⟨rfl,rfl,rfl,rfl⟩:=fO (zj hr (show _=(gX,bK.q (dL.q (O eG.a.a.a) (O Z8) u.a.e) (O eG.b.a),aA.q (bD.q a.a.l a.a.r a.a.t a.a.s a.a.g (O a.a.b.a) (O eH.a.a.a) (O aG.a.f.a) a.a.k a.a.u a.a.j a.a.e) (O eH.b.a),gY) from N (ae aL) (N (ae bR) (N (ip Q) (N (ae (bu dD)) (N (ae iV) (N (ae bB) (N (ae dS) (N (ae bC) (ae eQ))))))))))
 exact⟨lc,lg,lh,aM,aF,ll,lm,lq,lu,lv,dV,dW,lw,lC,lD,lF,lG,lH,Z,lI,eT,eU,eX,eY⟩
 have h101t:Bool.toNat bz=0:=by rw [Q]; rfl
 refine gw (V aU) (cn Q) (JM Z) (Gz (V (!aU)) (cn Q) (fw (V (!aU)) (JL Z (cn Q) Z) (nt ?_)))
 rcases Nf (aU) with aI | aI
 have h293t:Bool.toNat aU=1:=by rw [aI]; rfl
 refine jF (cn aI) (sk (JG (sr (Mn Z (jF Q (sk (JG ?_)))))))
 have lJ:=aa.pb [6,7,8,9,10,11]
 refine mX 10 [] (JP J3) lJ ?_
 intro qI lK
 refine qv 0 Z Z (qp Z3 0 1 Z (qp Z3 0 2 Z (ql 3 Z 0 S3 Z Z Z (qp ai 8 4 Z (ql 5 Z 3 E3 Z Z Z ?_)))))
 have lL:=lK.pf [10,14,15]
 obtain⟨ag,bE⟩:∃ q,dU a d.f=q:=⟨_,Z⟩
 obtain⟨qJ,jq,oU,jr,oV⟩:=KE lL
 refine qd 6 Z (J6 Tryz.call87 Z (mV _ _ g a z B r E F G Z6 L R h l d.f ag jq Z2 f2 bE) ?_)
 rintro _ qK ⟨eZ,fe,lM,rfl,jw,fo⟩
 have gZ:=jr _ _ jw
 have oW:=bg fo
 have oZ:=zr 1 gZ
 have ib:=gZ.pb [0,1,2,13,14,15]
 refine⟨.inr ⟨_,ib⟩, ?_⟩
 refine qn (JK (JG ?_))
 refine mX 10 [] (JP J3) ib ?_
 intro qL lN
 refine qv 0 Z Z (qp Z3 0 1 Z (qp Z3 0 2 Z (ql 3 Z 0 S3 Z Z Z (qp ai 8 4 Z (ql 5 Z 3 E3 Z Z Z ?_)))))
 have lQ:=lN.pf [10,15]
 obtain⟨aJ,fu⟩:∃ q,gy (aA.q a.a (O ag.b.a)) d.f=q:=⟨_,Z⟩
 obtain⟨qM,jy,o5,jA,o6⟩:=Ko lQ
 refine qd 6 Z (J6 Tryz.call88 Z (qY _ _ g (aA.q a.a (O ag.b.a)) z B r E F G eZ fe h l d.f aJ jy f2 fu) ?_)
 rintro _ qN ⟨fA,fB,rfl,jB,fC⟩
 have ic:=jA _ _ jB
 have o7:=zr 1 ic
 replace fC:X aJ.a.f.a<=X a.a.f.a+1:=fC
 have fD:=ic.pb [0,1,12,13,14,15]
 refine⟨.inr ⟨_,fD⟩, ?_⟩
 refine qn (JK (sr (Mz Z (Kz (vP ai 8) (Lz (vU d.f) fD 3 E3 ?_)))))
 have lS:=fD.pf [0,5,10,7,8,9]
 obtain⟨⟨aK,aP⟩,bF⟩:∃ q:bK × aZ,eO (bK.q (dL.q (O (u.a.a.a++ [(dK.q 6 a.a.l 0 0 0 0 0 0 d.f 0 0 0 0 0 0 J (au.q [] []) (O []) (O []) (O []))])) (O u.a.b.a) u.a.e) (O u.b.a)) d.f (aA.q (bD.q a.a.l a.a.r a.a.t a.a.s a.a.g (O a.a.b.a) (O a.a.a.a) (O aJ.a.f.a) a.a.k a.a.u a.a.j a.a.e) (O ag.b.a)) C=q:=⟨_,Z⟩
 obtain⟨qO,jC,o8,jE,pg⟩:=KH lS
 refine cl Tryz.call89 (o9 _ _ Z3 (bK.q (dL.q (O (u.a.a.a++ [(dK.q 6 a.a.l 0 0 0 0 0 0 d.f 0 0 0 0 0 0 J (au.q [] []) (O []) (O []) (O []))])) (O u.a.b.a) u.a.e) (O u.b.a)) aS aT aj ah ak av d.f g (aA.q (bD.q a.a.l a.a.r a.a.t a.a.s a.a.g (O a.a.b.a) (O a.a.a.a) (O aJ.a.f.a) a.a.k a.a.u a.a.j a.a.e) (O ag.b.a)) z B r E fA fB eZ fe h l C M Z5 Z7 aK aP jC Z4 f2 (by first | assumption | exact Tk.snd f8) bF) ?_
 rintro _ qP ⟨lT,lU,lV,lW,lX,rfl,jG,fE,fF⟩
 have fG:=jE _ _ jG
 have pq:=bg fE
 have pu:=fG.rowCQ (i:=1) Z
 have pz:=zr 4 fG
 replace fF:X aK.b.a<=X u.b.a+24:=fF
 obtain⟨fH,fI,fJ,fK⟩:=yf (m:=a) (m1:=a) (hs':=a.a.a.a) f8 f8 aL (by first | exact .inl ⟨Q,Z⟩ | exact .inr ⟨Q,Z⟩) Z bE j0 bF
 replace fH:Tk ag.b.a a.a.a.a aP.a.a:=fH
 replace fI:Gt ag.b.a:=fI
 replace fJ:Li aK.b.a aP.a.a:=fJ
 replace fK:X aK.b.a<=6:=fK
 have pE:jN aK.b.a ag.b.a aP.a.a<=306:=Nat.le_trans (Ci f8 _) Y
 refine nt (JG ?_)
 have lY:=fG.px [] [8] []
 refine JI (Mz Z ?_)
 have ig:=lY.pf [0,7,6,1,2,13,14,11,12,9]
 have pF:=zr 13 ig
 obtain⟨⟨ik,fM,fP,il⟩,fQ⟩:∃ q:Int × bK × aA × aZ,dQ (bK.q (dL.q (O (u.a.a.a++ [(dK.q 6 a.a.l 0 0 0 0 0 0 d.f 0 0 0 0 0 0 J (au.q [] []) (O []) (O []) (O []))])) (O u.a.b.a) u.a.e) (O aK.b.a)) (aA.q (bD.q a.a.l a.a.r a.a.t a.a.s a.a.g (O a.a.b.a) (O a.a.a.a) (O aJ.a.f.a) a.a.k a.a.u a.a.j a.a.e) (O ag.b.a)) j aP=q:=⟨_,Z⟩
 obtain⟨qQ,jH,jI,jJ,jK⟩:=KP ig
 refine cl V3 (nZ _ _ Z3 (bK.q (dL.q (O (u.a.a.a++ [(dK.q 6 a.a.l 0 0 0 0 0 0 d.f 0 0 0 0 0 0 J (au.q [] []) (O []) (O []) (O []))])) (O u.a.b.a) u.a.e) (O aK.b.a)) aS aT (Z0++ [(bU.q 6 a.a.l 0 0 0 0 0 0 d.f 0 0 0 0 0 0 J (au.q [] []) (O6 Z9 Z1 []) (O6 Zv 0 []) (O6 Zv 0 []))]) aj ah lT lU g (aA.q (bD.q a.a.l a.a.r a.a.t a.a.s a.a.g (O a.a.b.a) (O a.a.a.a) (O aJ.a.f.a) a.a.k a.a.u a.a.j a.a.e) (O ag.b.a)) z B r E p fA fB eZ fe lM h j S I l aP lV lW lX ik fM fP il jH (jP (es:= [(bU.q 6 a.a.l 0 0 0 0 0 0 d.f 0 0 0 0 0 0 J (au.q [] []) (O6 Z9 Z1 []) (O6 Zv 0 []) (O6 Zv 0 []))]) (ms:= [(dK.q 6 a.a.l 0 0 0 0 0 0 d.f 0 0 0 0 0 0 J (au.q [] []) (O []) (O []) (O []))]) aC Z) (jK _ 0 _ Z bQ) Y P fo (jI _ aD) Y fE f8 f8 f8 (by first | omega | exact Tk.n f8) (by first | omega | exact Tk.rows f8) f2 fQ) ?_
 rintro _ qR ⟨lZ,l5,l6,l7,l8,l9,ma,mf,mg,mh,mi,mo,mq,mr,rfl,jL,fT,fU,fV,fZ⟩
 have aQ:=jJ _ _ jL
 have pG:=bg fT
 have pI:=bg fU
 have pJ:=bg fV
 have pK:=bg fZ
 have pM:=zr 1 aQ
 have pO:=aQ.rowCQ (i:=3) Z
 have pQ:=zr 5 aQ
 have pR:=zr 7 aQ
 have pU:=zr 11 aQ
 refine An Z (rt (rs ?_))
 have mD:=aQ.pf [0,1,2,13,3,4,5,6,14]
 obtain⟨rfl,rfl,rfl,rfl⟩:=fO (zj hr (show _=(ik,bK.q (dL.q (O fM.a.a.a) (O u.a.b.a) u.a.e) (O fM.b.a),aA.q (bD.q a.a.l a.a.r a.a.t a.a.s a.a.g (O a.a.b.a) (O fP.a.a.a) (O aJ.a.f.a) a.a.k a.a.u a.a.j a.a.e) (O fP.b.a),il) from N (ae aL) (N (ae bR) (N (eP Q) (N (ip aI) (N (ae bE) (N (ae fu) (N (ae bF) (ae fQ)))))))))
 exact⟨lZ,l5,l6,aj,ah,l7,l8,l9,ma,mf,fA,fB,mg,mh,mi,mo,mq,mr,Z,mD,fT,fU,fV,fZ⟩
 have h293t:Bool.toNat aU=0:=by rw [aI]; rfl
 refine jT (cn aI) (sr (An Z (rt (tR (rs ?_)))))
 have mE:=aa.px [0,2] [3] []
 obtain⟨rfl,rfl,rfl,rfl⟩:=fO (zj hr (show _=(0,bK.q (dL.q (O (u.a.a.a++ [(dK.q 6 a.a.l 0 0 0 0 0 0 d.f 0 0 0 0 0 0 J (au.q [] []) (O []) (O []) (O []))])) (O u.a.b.a) u.a.e) (O u.b.a),a,C) from N (ae aL) (N (ae bR) (N (eP Q) (eP aI))))).symm
 exact⟨aS,aT,(Z0++ [(bU.q 6 a.a.l 0 0 0 0 0 0 d.f 0 0 0 0 0 0 J (au.q [] []) (O6 Z9 Z1 []) (O6 Zv 0 []) (O6 Zv 0 []))]),aj,ah,ak,av,r,E,p,F,G,Z6,L,R,M,Z5,Z7,Z,mE,(jP (es:= [(bU.q 6 a.a.l 0 0 0 0 0 0 d.f 0 0 0 0 0 0 J (au.q [] []) (O6 Z9 Z1 []) (O6 Zv 0 []) (O6 Zv 0 []))]) (ms:= [(dK.q 6 a.a.l 0 0 0 0 0 0 d.f 0 0 0 0 0 0 J (au.q [] []) (O []) (O []) (O []))]) aC Z),P,Z2,Z4⟩
end
section
open Go.RowKit
theorem Fv {x:dK}:∀ {l:List Int},lp (jY x l) (λ _=>Zk)=Zk->∀ f ∈ l,sQ x f=Zk
  | [],_,f,hf=>by cases hf
  | y::l,h,f,hf=>by
    simp only [jY,bnd] at h
    by_cases e:sQ x y=Zk
    . rw [ZK e] at h
      rcases List.mem_cons.1 hf with rfl | hf
      . exact e
      . exact Fv h f hf
    . rw [ZV e] at h; cases h
theorem zX {x:dK} {r:Int} (h:kV x=r) (a:r=0) (hk:x.e=3):pF 3 x.a.a=Zk:=by
  subst a
  unfold kV sZ at h
  simp only [bnd] at h
  rcases el:rq x.e with ⟨y,ok⟩
  rw [el] at h
  split at h
  case isFalse=>cases h
  split at h
  case isFalse=>cases h
  split at h
  case isFalse=>cases h
  split at h
  case isFalse=>cases h
  split at h
  case isFalse=>cases h
  rename_i hm
  have b:(7:Int) ∈ y.a.a:=by
    rw [hk] at el
    have:y=gz.q 0 1 (Ll.q ([4,5,6,7])):=(ZJ Prod.fst el).symm
    rw [this]; decide
  have:=Fv hm 7 b
  simp only [sQ,bnd,Int.reduceEq, ↓reduceIte] at this
  rw [hk] at this
  exact this
theorem yC {x:dK} {r:Int} (h:kV x=r): ¬ (r=0)\/¬ (x.e=3)\/X x.a.a<=24:=by
  by_cases a:r=0
  . by_cases hk:x.e=3
    . have:=zX h a hk
      unfold pF at this
      rw [ZV f6,ZK Z] at this
      refine .inr (.inr ?_)
      split at this
      . split at this
        . omega
        . cases this
      . cases this
    . exact .inr (.inl hk)
  . exact .inl a
section
variable {κ ν:Type} [DecidableEq κ] {P:Program} {n:Nat} {F:List (Nat × ZX)} {w0 w:ZQ} {D:Nat->Prop} {L:List HP} {ty t kt e:TypeId} {ek:κ->ZX} {vv:ν->ZX} {m:List (κ × ν)} {g:Nat} {K:ZX->ZQ->Prop} {x y q:Operand}
theorem KS {k:κ} {v:ν} (H:Own w0 D w (qE g ek vv m::L)) (K':Af P kt ek) (ht:P.underlying t=Zw (.map kt e)) (hx:ev F x=Zw (.map (Zw g))) (hy:ev F y=Zw (ek k)) (hq:ev F q=Zw (vv v))
    (h:∀ w',Own w0 D w' (qE g ek vv (gW m k v)::L)->K undef w'):Do P n F w (.insert t x y q) ty K:=λ a ha op b c next Q hnx=>by
  have d:execOp a.eval op=execOp a.eval { op with op:= .mapUpdate t x y q }:=by unfold execOp; rw [b]
  rw [d]
  exact LQ H K' ht hx hy hq h a ha { op with op:= .mapUpdate t x y q } Z c next Q hnx
end
def vF:Option Nat->ZX
  | some f=> .func (.func f) #[] #[]
  | none=> Zj
theorem Hu {k:Int} {a b c d e f:Option Nat} (h: ¬ k=12) (i: ¬ k=11) (j: ¬ k=10) (l: ¬ k=8) (o: ¬ k=5) (p: ¬ k=3):vg (gW (gW (gW (gW (gW (gW ([]:List (Int × Option Nat)) 3 a) 5 b) 8 c) 10 d) 11 e) 12 f) k=Zv:=by
  simp [gW,vg,Ne.symm p,Ne.symm o,Ne.symm l,Ne.symm j,Ne.symm i,Ne.symm h]
end
open _root_.Go.Proofs.Tryz renaming call18->V4,isAgg41->F0,isAgg52->V7,sizeOf4->V6,sizeOf41->F1,sizeOf52->V8,underlying3->v8,underlying86->V5
section
open Go.RowKit
def jO (b:aA):bD:=
 bnd (iQ b.a) λ a=>a
theorem rG (w D Z3) (a:aA) (f b g d j h e t u y z) (B:bD) (H:Own w D w [blk Z3 (kB a f (X a.a.b.a) b g (X a.a.a.a) d h (X a.a.f.a) e a.a.k y t (X a.b.a) u z) 80]) (M:Ro w D λ w'=>bP w' 2 f (X a.a.b.a) (q0 bO.J a.a.b.a)) (ah:X a.a.b.a<=b/\X a.a.b.a<=9223372036854775807) (n:r7 bf.abs j=a.a.a.a) (Z5:Ro w D λ w'=>bP w' 2 g (X a.a.a.a) (q0 bf.J j)) (ai:X a.a.a.a<=d/\X a.a.a.a<=9223372036854775807) (o:∀ x ∈ j,Ro w D (λ w'=>bP w' 6 x.a.A (X x.a.a) (q0 aY.J x.a.a))/\(X x.a.a<=x.a.c/\X x.a.a<=9223372036854775807)) (Z6:Ro w D λ w'=>bP w' 1 h (X a.a.f.a) (q0 (eN .u64) a.a.f.a)) (aj:X a.a.f.a<=e/\X a.a.f.a<=9223372036854775807) (aF:X a.a.b.a<=1000000/\X a.a.a.a<=1000000/\X a.a.f.a<=1000000) (aG:(∀ x ∈ a.a.a.a,X x.a.a<=1000000)) (hr:jO a=B):
    Calls Tryz.prog 11 #[vP Z3 0] w (dM λ v w'=> ∃ C E F G I Z7 p,v= Zx (Zc (iL B C E F G I Z7))/\Own w D w' [row C (X B.b.a) E (q0 bO.J B.b.a) 83 2,row F (X B.a.a) G (q0 bf.J p) 60 2,sepL (q0 J9 p),row I (X B.f.a) Z7 (q0 (eN .u64) B.f.a) 32 1,blk Z3 (kB a f (X a.a.b.a) b g (X a.a.a.a) d h (X a.a.f.a) e a.a.k y t (X a.b.a) u z) 80]/\(r7 bf.abs p=B.a.a)):=by
 unfold jO at hr
 have af:=bg n
 refine cb Tryz.func11 ?_
 refine sr ?_
 refine cu (gX 0 0 0 0 0 Zv 0 0 Zv 0 0 Zv 0 0 0 0 [] [] 0 0 0 [] []) 41 H ?_
 intro aH aI Z9
 refine ns (Mz Z (Kz (vP Z3 0) (Kz (vP Z3 0) (La (gX a.a.l a.a.r a.a.t a.a.s a.a.g f (X a.a.b.a) b g (X a.a.a.a) d h (X a.a.f.a) e a.a.k a.a.u a.a.j.a a.a.j.b a.a.e.g a.a.e.u a.a.e.a a.a.e.j.a a.a.e.j.b) Z9 1 F0 F1 ?_))))
 obtain⟨r,K⟩:∃ q,iQ a.a=q:=⟨_,Z⟩
 obtain⟨aJ,Z1,l,Z2,ax⟩:=JJ Z9
 refine cl V4 (mG _ _ a.a f (X a.a.b.a) b g (X a.a.a.a) d j h (X a.a.f.a) e r Z1 Z (l _ M) Y n Z (l _ Z5) Y (λ x9 h9=>⟨l _ (o x9 h9).1,(o x9 h9).2⟩) Z (l _ Z6) Y g6 (by first | assumption | exact λ _ h9=>absurd h9 v6 | exact Tk.hops f8) K) ?_
 rintro _ aK ⟨P,Q,R,S,Z8,Z4,ak,rfl,Z0,L⟩
 have s:=Z2 _ _ Z0
 have az:=bg L
 have aB:=zr 0 s
 have aC:=zr 1 s
 have aD:=zr 3 s
 have au:=s.pf [4]
 refine cO (iL r P Q R S Z8 Z4) 0 au F1 ?_
 intro aL aa
 refine nt (rt (JY (pV Z Z (JW (cs:=(iL r P Q R S Z8 Z4)) F0 F1 ((aa.cls (i:=0) Z).lit (k:=0) (m:=17) Z))) ?_))
 have av:=aa.px [] [0] []
 obtain rfl:=zj hr zq1
 exact⟨P,Q,R,S,Z8,Z4,ak,Z,av,L⟩
def eF (b:aA) (e:dK) (f:StoreT) (d:aZ):dL × Int × aA × aZ:=
 if e.e=5 then bnd (kV e) λ k=>if k=0 then if e.C=b.a.l then bnd (iQ b.a) λ l=>bnd (iB (bK.q (dL.q (O []) (O []) J) (O [])) e b f d) λ a=>if a.1=0 then if((X a.2.1.a.b.a:Nat):Int) > 0 then(dL.q (O a.2.1.a.a.a) (O a.2.1.a.b.a) Zk,0,aA.q (bD.q b.a.l b.a.r b.a.t b.a.s b.a.g (O b.a.b.a) (O a.2.2.1.a.a.a) (O a.2.2.1.a.f.a) b.a.k b.a.u b.a.j b.a.e) (O a.2.2.1.b.a),a.2.2.2) else bnd (oM l (bD.q b.a.l b.a.r b.a.t b.a.s b.a.g (O b.a.b.a) (O a.2.2.1.a.a.a) (O a.2.2.1.a.f.a) b.a.k b.a.u b.a.j b.a.e)) λ g=>(dL.q (O a.2.1.a.a.a) (O a.2.1.a.b.a) (!g),0,aA.q (bD.q b.a.l b.a.r b.a.t b.a.s b.a.g (O b.a.b.a) (O a.2.2.1.a.a.a) (O a.2.2.1.a.f.a) b.a.k b.a.u b.a.j b.a.e) (O a.2.2.1.b.a),a.2.2.2) else(dL.q (O []) (O []) J,a.1,aA.q (bD.q b.a.l b.a.r b.a.t b.a.s b.a.g (O b.a.b.a) (O a.2.2.1.a.a.a) (O a.2.2.1.a.f.a) b.a.k b.a.u b.a.j b.a.e) (O a.2.2.1.b.a),a.2.2.2) else(dL.q (O []) (O []) J,180,b,d) else(dL.q (O []) (O []) J,180,b,d) else if e.e=3 then bnd (kV e) λ h=>if h=0 then if e.C=b.a.l then bnd (iQ b.a) λ i=>bnd (jK (bK.q (dL.q (O []) (O []) J) (O [])) e b f d) λ c=>if c.1=0 then bnd (oM i (bD.q b.a.l b.a.r b.a.t b.a.s b.a.g (O b.a.b.a) (O c.2.2.1.a.a.a) (O c.2.2.1.a.f.a) c.2.2.1.a.k b.a.u b.a.j b.a.e)) λ j=>(dL.q (O c.2.1.a.a.a) (O []) (!j),0,aA.q (bD.q b.a.l b.a.r b.a.t b.a.s b.a.g (O b.a.b.a) (O c.2.2.1.a.a.a) (O c.2.2.1.a.f.a) c.2.2.1.a.k b.a.u b.a.j b.a.e) (O c.2.2.1.b.a),c.2.2.2) else(dL.q (O []) (O []) J,c.1,aA.q (bD.q b.a.l b.a.r b.a.t b.a.s b.a.g (O b.a.b.a) (O c.2.2.1.a.a.a) (O c.2.2.1.a.f.a) c.2.2.1.a.k b.a.u b.a.j b.a.e) (O c.2.2.1.b.a),c.2.2.2) else(dL.q (O []) (O []) J,180,b,d) else(dL.q (O []) (O []) J,180,b,d) else(dL.q (O []) (O []) J,180,b,d)
theorem jU (w D g0) (a:aA) (I r E t Z7 F u R S Z5) (b:dK) (Z6 gy z P gz B aM Q gB C Z2) (G:StoreT) (Z3 L Z0) (y:aZ) (g j d) (r0:dL) (r1) (r2:aA) (r3:aZ) (H:Own w D w [blk g0 (kB a I (X a.a.b.a) r E (X a.a.a.a) t F (X a.a.f.a) u a.a.k Z2 R (X a.b.a) S Z0) 80,row E (X a.a.a.a) t (q0 bf.J Z7) 60 2,sepL (q0 J9 Z7),row F (X a.a.f.a) u (q0 (eN .u64) a.a.f.a) 32 1,row R (X a.b.a) S (q0 aW.J Z5) 99 4,sepL (q0 J5 Z5),blk Z2 [W Z3 (X G.a.a) L] 27,blk Z0 [W g (X y.a.a) j] 114,row g (X y.a.a) j (q0 aB.J d) 164 6,sepL (q0 J4 d)]) (aN:Ro w D λ w'=>bP w' 2 I (X a.a.b.a) (q0 bO.J a.a.b.a)) (lw:X a.a.b.a<=r/\X a.a.b.a<=9223372036854775807) (Z1:r7 bf.abs Z7=a.a.a.a) (aa:r7 aW.abs Z5=a.b.a) (iK:gy=X b.a.a) (bB:Ro w D λ w'=>bP w' 6 Z6 (X b.a.a) (q0 aY.J b.a.a)) (lC:X b.a.a<=z/\X b.a.a<=9223372036854775807) (aO:r7 aR.abs aM=b.l.a) (iM:gz=X b.l.a) (bC:Ro w D λ w'=>bP w' 3 P (X b.l.a) (q0 aR.J aM)) (lD:X b.l.a<=B/\X b.l.a<=9223372036854775807) (af:∀ x ∈ aM,Ro w D (λ w'=>bP w' 2 x.a.A (X x.a.a) (q0 ay.J x.a.a))/\(X x.a.a<=x.a.c/\X x.a.a<=9223372036854775807)) (iO:gB=X b.b.a) (bE:Ro w D λ w'=>bP w' 2 Q (X b.b.a) (q0 bO.J b.b.a)) (lF:X b.b.a<=C/\X b.b.a<=9223372036854775807) (bL:Ro w D λ w'=>bP w' 2 Z3 (X G.a.a) (q0 ay.J G.a.a)) (jr:X G.a.a<=L/\X G.a.a<=9223372036854775807) (M:r7 aB.abs d=y.a.a) (oD:Tk a.b.a a.a.a.a y.a.a) (oF:Gt a.b.a) (oG:X a.b.a+X a.a.a.a<=6) (oH:X y.a.a<=6) (oI:X G.a.a<=4000/\X a.a.b.a<=1000/\X a.a.f.a<=999) (oJ:b.e=3\/b.e=5\/b.e=6) (oK:X b.a.a<=140737488355328/\X b.l.a<=140737488355328/\X b.b.a<=140737488355328) (hr:eF a b G y=(r0,r1,r2,r3)):
    Calls Tryz.prog 9 #[vP g0 0, Zx (Zc (iF b.e b.G b.C b.I b.y b.F b.z b.r b.f b.k b.t b.s b.g b.u b.E b.D b.j.a b.j.b Z6 gy z P gz B Q gB C))] w (dM λ v w'=> ∃ gF gG gI gJ ed ek eu dh eB eD eG eH di eO eP dm,v= .tuple #[Zx #[W gF (X r0.a.a) gG, W gI (X r0.b.a) gJ, V r0.e],vI r1]/\Own w D w' [row gF (X r0.a.a) gG (q0 bU.J ed) 47 21,sepL (q0 Kg ed),row gI (X r0.b.a) gJ (q0 aY.J r0.b.a) 68 6,blk g0 (kB a I (X a.a.b.a) r ek (X r2.a.a.a) eu eB (X r2.a.f.a) eD r2.a.k Z2 eG (X r2.b.a) eH Z0) 80,row ek (X r2.a.a.a) eu (q0 bf.J dh) 60 2,sepL (q0 J9 dh),row eB (X r2.a.f.a) eD (q0 (eN .u64) r2.a.f.a) 32 1,row eG (X r2.b.a) eH (q0 aW.J di) 99 4,sepL (q0 J5 di),blk Z2 [W Z3 (X G.a.a) L] 27,blk Z0 [W eO (X r3.a.a) eP] 114,row eO (X r3.a.a) eP (q0 aB.J dm) 164 6,sepL (q0 J4 dm)]/\(r7 bU.abs ed=r0.a.a)/\(r7 bf.abs dh=r2.a.a.a)/\(r7 aW.abs di=r2.b.a)/\(r7 aB.abs dm=r3.a.a)):=by
 subst iK iM iO
 have lq:=bg Z1
 have lu:=bg aa
 have lv:=bg aO
 have jq:=bg M
 have lG:=zr 1 H
 have lH:=zr 3 H
 have lI:=zr 4 H
 have jv:=zr 8 H
 refine cb Tryz.func9 ?_
 refine sr ?_
 refine cu (mF b Z6 z P B Q C) 47 H ?_
 intro dW oL lJ
 refine cu [W Zv 0 0, W Zv 0 0, V J] 52 lJ ?_
 intro iP oN lK
 refine An Z (JG ?_)
 refine mX 12 [] (JP J3) lK ?_
 intro oO lL
 refine qp dW 0 1 Z (ql 2 Z 1 B5 Z Z Z ?_)
 refine GX.do 0 Z f1 (J6 Tryz.call21 Z ?_ (λ _ _ k=>k))
 refine cb Tryz.func21 ?_
 refine sr (Ar Z ?_)
 refine WL.do Z (Md (κ:=Int) (ν:=Option Nat) kI vF lL ?_)
 intro dX oP lM
 refine Kw (KS (k:=3) (v:=(Zw 39)) lM (rO v8) V5 Z Z Z ?_)
 intro oQ lN
 refine Kw (KS (k:=5) (v:=(Zw 40)) lN (rO v8) V5 Z Z Z ?_)
 intro oU lQ
 refine Kw (KS (k:=8) (v:=(Zw 41)) lQ (rO v8) V5 Z Z Z ?_)
 intro oV lS
 refine Kw (KS (k:=10) (v:=(Zw 42)) lS (rO v8) V5 Z Z Z ?_)
 intro oW lT
 refine Kw (KS (k:=11) (v:=(Zw 43)) lT (rO v8) V5 Z Z Z ?_)
 intro oZ lU
 refine Kw (KS (k:=12) (v:=(Zw 44)) lU (rO v8) V5 Z Z Z ?_)
 intro o5 lV
 refine Mz Z (An Z (rt (rs ?_)))
 have dn:=lV.pb [0]
 refine⟨.inr ⟨_,dn⟩, ?_⟩
 by_cases aV:b.e=5
 refine Lr (Good':=λ Z9=> ∃ L',Own w D Z9 ([blk iP [W Zv 0 0, W Zv 0 0, V J] 52,blk dW (mF b Z6 z P B Q C) 47,blk g0 (kB a I (X a.a.b.a) r E (X a.a.a.a) t F (X a.a.f.a) u a.a.k Z2 R (X a.b.a) S Z0) 80,row E (X a.a.a.a) t (q0 bf.J Z7) 60 2,sepL (q0 J9 Z7),row F (X a.a.f.a) u (q0 (eN .u64) a.a.f.a) 32 1,row R (X a.b.a) S (q0 aW.J Z5) 99 4,sepL (q0 J5 Z5),blk Z2 [W Z3 (X G.a.a) L] 27,blk Z0 [W g (X y.a.a) j] 114,row g (X y.a.a) j (q0 aB.J d) 164 6,sepL (q0 J4 d),qE dX kI vF (gW (gW (gW (gW (gW (gW [] 3 (Zw 39)) 5 (Zw 40)) 8 (Zw 41)) 10 (Zw 42)) 11 (Zw 43)) 12 (Zw 44))]++L')) (λ _ ⟨L',h⟩=>⟨[qE dX kI vF (gW (gW (gW (gW (gW (gW [] 3 (Zw 39)) 5 (Zw 40)) 8 (Zw 41)) 10 (Zw 42)) 11 (Zw 43)) 12 (Zw 44))]++L',h⟩) ⟨_,dn⟩ (qt (v:= .tuple #[.func (.func 40) #[] #[], V Zk]) 3 Z (λ _ ⟨_,H9⟩=>K6 (k:=b.e) (d0:=(Zv:Option Nat)) (o:=(Zw (Zw 40))) (i:=12) H9 Z (rO v8) V5 Za Z Z (by rw [show b.e=5 from by omega]; rfl)) (qv 4 Z Z (qk (.func (.func 40) #[] #[]) 5 Z (qk (V Zk) 6 Z (qa 7 Z Z (qa 8 Z Z (qn (JK (JG (JG ?_))))))))))
 have lW:=dn.px [] [12] []
 refine mX 12 [] (JP (JP J3)) lW ?_
 intro o6 lX
 refine qv 0 Z Z (qk (V J) 1 Z (qv 2 Z Z (JQ (v:= Zx (Zc (mF b Z6 z P B Q C))) (rs:= []) 3 Z Z Z Z f1 (λ _ ⟨_,H9⟩=>JS Z (JW (cs:=(mF b Z6 z P B Q C)) I3 J0 ((H9.cls (i:=1) Z).lit (k:=0) (m:=21) Z))) ?_)))
 obtain⟨dY,aP⟩:∃ q,kV b=q:=⟨_,Z⟩
 obtain⟨o7,jw,dE,jy,nC⟩:=JJ lX
 refine Ky 4 Z Z Z Z f1 (J6 Tryz.call22 Z (wZ _ _ b Z6 (X b.a.a) z P (X b.l.a) B aM Q (X b.b.a) C dY jw Z (dE _ bB) Y aO Z (dE _ bC) Y (λ x9 h9=>⟨dE _ (af x9 h9).1,(af x9 h9).2⟩) Z (dE _ bE) Y g4 aP) ?_)
 rintro _ o8 ⟨rfl,jA⟩
 have fV:=jy _ _ jA
 have nD: ¬ (dY=0)\/¬ (b.e=3)\/X b.a.a<=24:=yC aP
 refine⟨.inr ⟨_,fV⟩, ?_⟩
 refine JQ (v:= Zb (¬ (dY=0))) (rs:= []) 5 Z Z Z Z f1 (λ _ _=>JZ (e:= !(Zy (dY=0))) yk ZY) (qt (v:= Zb (¬ (dY=0))) 6 Z (λ _ _=>JH Z Z Z) (qv 7 Z Z ?_))
 by_cases Z8:dY=0
 refine JQ (v:=vP dW 2) (rs:= []) 8 Z Z Z (dF (Nc Z8)) f1 (λ _ _=>yk) (JQ (v:=vI b.C) (rs:= []) 9 Z Z Z (dF (Nc Z8)) f1 (λ _ ⟨_,H9⟩=>JS Z (bT.one B5 (Kk (H9.cls (i:=1) Z) Z))) (JQ (v:=vP g0 0) (rs:= []) 10 Z Z Z (dF (Nc Z8)) f1 (λ _ _=>JM Z) (JQ (v:=vP g0 0) (rs:= []) 11 Z Z Z (dF (Nc Z8)) f1 (λ _ _=>yk) (JQ (v:=vP g0 0) (rs:= []) 12 Z Z Z (dF (Nc Z8)) f1 (λ _ _=>yk) (JQ (v:=vP g0 0) (rs:= []) 13 Z Z Z (dF (Nc Z8)) f1 (λ _ _=>yk) (JQ (v:=vI a.a.l) (rs:= []) 14 Z Z Z (dF (Nc Z8)) f1 (λ _ ⟨_,H9⟩=>JS Z (bT.one B5 (Kk (H9.cls (i:=2) Z) Z))) (JQ (v:= Zb (¬ (b.C=a.a.l))) (rs:= []) 15 Z Z Z (dF (Nc Z8)) f1 (λ _ _=>JZ (e:= !(Zy (b.C=a.a.l))) yk ZY) (qt (v:= Zb (¬ (b.C=a.a.l))) 16 Z (λ _ _=>JH Z (dF (Nc Z8)) Z) (qn (JK ?_))))))))))
 by_cases dZ:b.C=a.a.l
 refine jF (dF (Nc dZ)) (sk (sr (Mz Z (Kz (Zx #[vP g0 0, W Zv 0 0, W Zv 0 0, V J, W Zv 0 0]) ?_))))
 refine cu [vP g0 0, W Zv 0 0, W Zv 0 0, V J, W Zv 0 0] 92 fV ?_
 intro aD o9 iR
 refine Ar Z (Mz Z (Kz (vP g0 0) (Kz (vP g0 0) (La (gX a.a.l a.a.r a.a.t a.a.s a.a.g I (X a.a.b.a) r E (X a.a.a.a) t F (X a.a.f.a) u a.a.k a.a.u a.a.j.a a.a.j.b a.a.e.g a.a.e.u a.a.e.a a.a.e.j.a a.a.e.j.b) iR 3 F0 F1 ?_))))
 obtain⟨au,dG⟩:∃ q,iQ a.a=q:=⟨_,Z⟩
 obtain⟨pg,jB,jC,jE,eQ⟩:=JJ iR
 refine cl V4 (mG _ _ a.a I (X a.a.b.a) r E (X a.a.a.a) t Z7 F (X a.a.f.a) u au jB Z (jC _ aN) Y Z1 Z (eQ _ 4 _ Z bQ) Y (λ x9 h9=>⟨eQ _ 5 _ Z (bM (P8.2 ⟨x9,h9,b3⟩) bQ),dH (φ:=λ _=>_) iR (i:=5) Z (bM (P8.2 ⟨x9,h9,b3⟩) dP)⟩) Z (eQ _ 6 _ Z bQ) Y g6 (by first | assumption | exact λ _ h9=>absurd h9 v6 | exact Tk.hops f8) dG) ?_
 rintro _ pq ⟨fZ,eT,gm,eU,gp,eX,lY,rfl,jG,gK⟩
 have gq:=jE _ _ jG
 have nE:=bg gK
 have nG:=zr 0 gq
 have nH:=zr 1 gq
 have nI:=zr 3 gq
 refine cu (gX 0 0 0 0 0 Zv 0 0 Zv 0 0 Zv 0 0 0 0 [] [] 0 0 0 [] []) 41 gq ?_
 intro pu pz lZ
 refine cO (iL au fZ eT gm eU gp eX) 0 lZ F1 ?_
 intro gu jH
 refine nt (JG (sr (Mz Z (Mz Z (La (mF b Z6 z P B Q C) jH 7 I3 J0 ?_)))))
 have l5:Own w D gu (sepL (q0 Kg [])::_):=jH.sepNil
 have l6:Own w D gu (row Zv 0 0 (q0 bU.J []) 47 21::_):=l5.free (cK 47 21)
 have l7:Own w D gu (row Zv 0 0 (q0 aY.J []) 68 6::_):=l6.free (cK 68 6)
 have l8:Own w D gu (jD Zv 0 0 (q0 dC.J []) 216 2::_):=Own.upQ (l7.free (cK 216 2))
 have l9:=l8.px [9,2,3,1] [] [4,5,6,7,8,10,11]
 obtain⟨⟨aX,l,p,dI⟩,bF⟩:∃ q:Int × bK × aA × aZ,iB (bK.q (dL.q (O []) (O []) J) (O [])) b a G y=q:=⟨_,Z⟩
 obtain⟨pE,jI,bN,iT,ma⟩:=LX l9
 refine WL.do Z (Kh Tryz.call40 Z Z (xk _ _ aD (bK.q (dL.q (O []) (O []) J) (O [])) Zv 0 [] Zv 0 Zv 0 b Z6 (X b.a.a) z P (X b.l.a) B aM Q (X b.b.a) C g0 a I r E t Z7 F u R S Z5 Z2 G Z3 L Z0 y g j d aX l p dI jI Z Z (bN _ bB) Y aO Z (bN _ bC) Y (λ x9 h9=>⟨bN _ (af x9 h9).1,(af x9 h9).2⟩) Z (bN _ bE) Y Z1 aa (bN _ bL) Y M f8 f8 j0 (by first | omega | exact Tk.n f8) (by first | omega | exact Tk.rows f8) f2 f2 bF) ?_)
 rintro _ nJ ⟨ah,ai,gL,aj,ak,nK,nL,bi,aQ,dJ,bn,aS,eY,eZ,fe,fo,fq,fu,rfl,iU,dw,aT,bG,bH⟩
 have aK:=iT _ _ iU
 have mf:=bg dw
 have mg:=bg aT
 have mh:=bg bG
 have mi:=bg bH
 have mo:=zr 1 aK
 have mq:=zr 3 aK
 have mr:=aK.rowCQ (i:=4) Z
 have mD:=zr 6 aK
 have mE:=zr 8 aK
 have mH:=zr 9 aK
 have mI:=zr 13 aK
 refine An Z (JG ?_)
 have gM:=aK.px [] [21] []
 refine JI (Mz Z (fw (Zb (¬ (aX=0))) (JZ (e:= !(Zy (aX=0))) yk ZY) (nt ?_)))
 by_cases bR:aX=0
 refine jF (dF (Nc bR)) (sk (JG ?_))
 refine mX 21 [20] (JP J3) gM ?_
 intro nM dN
 refine qv 0 Z Z (qv 1 Z Z (qp aD 0 2 Z (qp aD 1 3 Z (qp aD 2 4 Z (ql 5 Z 0 Tryz.isAgg44 Z Z Z (qk (vJ (X l.a.b.a)) 6 Z (qk (Zb ((X l.a.b.a:Int) > 0)) 7 Z (qv 8 Z Z ?_))))))))
 by_cases K:(X l.a.b.a:Int) > 0
 refine JO (rs:= [[]]) 9 Z Z Z (dT K) f1 (JO (rs:= [[]]) 10 Z Z Z (dT K) f1 (JO (rs:= [[]]) 11 Z Z Z (dT K) f1 (JO (rs:= [[]]) 12 Z Z Z (dT K) f1 (JO (rs:= [[]]) 13 Z Z Z (dT K) f1 (JO (rs:= [[]]) 14 Z Z Z (dT K) f1 (JO (rs:= [[]]) 15 Z Z Z (dT K) f1 (qt (v:= V Zk) 16 Z (λ _ _=>JL Z (dT K) Z) (qp aD 0 17 Z (qp aD 1 18 Z (qp aD 3 19 Z ?_))))))))))
 refine qe 20 Z (Do.store (vs:= [V Zk]) (o:=3) dN Z Z V6 Z Z Z Z ?_)
 intro nN jJ
 refine⟨.inl f1, ?_⟩
 refine qn (JK (JG ?_))
 have gN:=jJ.px [] [15,16,17,18,19] []
 refine JI (Mz Z (Kz (vP aD 0) (Kz (vP aD 1) (La ([W ah (X l.a.a.a) ai, W aj (X l.a.b.a) ak, V Zk]) gN 0 V7 V8 ?_))))
 have jL:=gN.pf [15]
 refine cO [W ah (X l.a.a.a) ai, W aj (X l.a.b.a) ak, V Zk] 0 jL V8 ?_
 intro nO gP
 refine An Z (rt (JY (gH (vs:= [Zx #[W ah (X l.a.a.a) ai, W aj (X l.a.b.a) ak, V Zk],vI 0]) Z (bW.cell Z (JW (cs:= [W ah (X l.a.a.a) ai, W aj (X l.a.b.a) ak, V Zk]) V7 V8 ((gP.cls (i:=0) Z).lit (k:=0) (m:=3) Z)) (bW.tmp Z bW.nil)) (M9 Z)) ?_))
 have jM:=gP.px [] [0,1,5] []
 obtain⟨rfl,rfl,rfl,rfl⟩:=fO (zj hr (show _=(dL.q (O l.a.a.a) (O l.a.b.a) Zk,0,aA.q (bD.q a.a.l a.a.r a.a.t a.a.s a.a.g (O a.a.b.a) (O p.a.a.a) (O p.a.f.a) a.a.k a.a.u a.a.j a.a.e) (O p.b.a),dI) from N (ip aV) (N (ae aP) (N (ip Z8) (N (ip dZ) (N (ae dG) (N (ae bF) (N (ip bR) (ip K)))))))))
 exact⟨ah,ai,aj,ak,gL,bi,aQ,dJ,bn,aS,eY,eZ,fe,fo,fq,fu,Z,jM,dw,aT,bG,bH⟩
 refine JQ (v:= Zx (Zc (iL au fZ eT gm eU gp eX))) (rs:= [[]]) 9 Z Z Z (dF K) f1 (λ _ ⟨_,H9⟩=>JS Z (JW (cs:=(iL au fZ eT gm eU gp eX)) F0 F1 ((H9.cls (i:=15) Z).lit (k:=0) (m:=17) Z))) (JQ (v:=vP g0 0) (rs:= [[]]) 10 Z Z Z (dF K) f1 (λ _ _=>JM Z) (JQ (v:=vP g0 0) (rs:= [[]]) 11 Z Z Z (dF K) f1 (λ _ _=>yk) (JQ (v:=vP g0 0) (rs:= [[]]) 12 Z Z Z (dF K) f1 (λ _ _=>yk) (JQ (v:= Zx (Zc (gX a.a.l a.a.r a.a.t a.a.s a.a.g I (X a.a.b.a) r bi (X p.a.a.a) aQ bn (X p.a.f.a) aS a.a.k a.a.u a.a.j.a a.a.j.b a.a.e.g a.a.e.u a.a.e.a a.a.e.j.a a.a.e.j.b))) (rs:= [[]]) 13 Z Z Z (dF K) f1 (λ _ ⟨_,H9⟩=>JS Z (JW (cs:=(gX a.a.l a.a.r a.a.t a.a.s a.a.g I (X a.a.b.a) r bi (X p.a.a.a) aQ bn (X p.a.f.a) aS a.a.k a.a.u a.a.j.a a.a.j.b a.a.e.g a.a.e.u a.a.e.a a.a.e.j.a a.a.e.j.b)) F0 F1 ((H9.cls (i:=5) Z).lit (k:=0) (m:=17) Z))) ?_))))
 obtain⟨aF,fA⟩:∃ q,oM au (bD.q a.a.l a.a.r a.a.t a.a.s a.a.g (O a.a.b.a) (O p.a.a.a) (O p.a.f.a) a.a.k a.a.u a.a.j a.a.e)=q:=⟨_,Z⟩
 obtain⟨nP,iV,iW,iX,av⟩:=JJ dN
 refine Ky 14 Z Z Z (dF K) f1 (J6 Tryz.call23 Z (ui _ _ au fZ (X au.b.a) eT gm (X au.a.a) eU lY gp (X au.f.a) eX (bD.q a.a.l a.a.r a.a.t a.a.s a.a.g (O a.a.b.a) (O p.a.a.a) (O p.a.f.a) a.a.k a.a.u a.a.j a.a.e) I (X a.a.b.a) r bi (X p.a.a.a) aQ dJ bn (X p.a.f.a) aS aF iV Z (av _ 16 _ Z bQ) Y gK Z (av _ 17 _ Z bQ) Y (λ x9 h9=>⟨av _ 18 _ Z (bM (P8.2 ⟨x9,h9,b3⟩) bQ),dH (φ:=λ _=>_) dN (i:=18) Z (bM (P8.2 ⟨x9,h9,b3⟩) dP)⟩) Z (av _ 19 _ Z bQ) Y Z (iW _ aN) Y aT Z (av _ 6 _ Z bQ) Y (λ x9 h9=>⟨av _ 7 _ Z (bM (P8.2 ⟨x9,h9,b3⟩) bQ),dH (φ:=λ _=>_) dN (i:=7) Z (bM (P8.2 ⟨x9,h9,b3⟩) dP)⟩) Z (av _ 8 _ Z bQ) Y fA) ?_)
 rintro _ nQ ⟨rfl,iY⟩
 have gQ:=iX _ _ iY
 refine⟨.inr ⟨_,gQ⟩, ?_⟩
 refine JQ (v:= V (!aF)) (rs:= [[]]) 15 Z Z Z (dF K) f1 (λ _ _=>yk) (qt (v:= V (!aF)) 16 Z (λ _ _=>JH Z (dF K) Z) (qp aD 0 17 Z (qp aD 1 18 Z (qp aD 3 19 Z ?_))))
 refine qe 20 Z (Do.store (vs:= [V (!aF)]) (o:=3) gQ Z Z V6 Z Z Z Z ?_)
 intro nR jN
 refine⟨.inl f1, ?_⟩
 refine qn (JK (JG ?_))
 have gT:=jN.px [] [15,16,17,18,19] []
 refine JI (Mz Z (Kz (vP aD 0) (Kz (vP aD 1) (La ([W ah (X l.a.a.a) ai, W aj (X l.a.b.a) ak, V (!aF)]) gT 0 V7 V8 ?_))))
 have jO:=gT.pf [15]
 refine cO [W ah (X l.a.a.a) ai, W aj (X l.a.b.a) ak, V (!aF)] 0 jO V8 ?_
 intro nS gU
 refine An Z (rt (JY (gH (vs:= [Zx #[W ah (X l.a.a.a) ai, W aj (X l.a.b.a) ak, V (!aF)],vI 0]) Z (bW.cell Z (JW (cs:= [W ah (X l.a.a.a) ai, W aj (X l.a.b.a) ak, V (!aF)]) V7 V8 ((gU.cls (i:=0) Z).lit (k:=0) (m:=3) Z)) (bW.tmp Z bW.nil)) (M9 Z)) ?_))
 have jP:=gU.px [] [0,1,5] []
 obtain⟨rfl,rfl,rfl,rfl⟩:=fO (zj hr (show _=(dL.q (O l.a.a.a) (O l.a.b.a) (!aF),0,aA.q (bD.q a.a.l a.a.r a.a.t a.a.s a.a.g (O a.a.b.a) (O p.a.a.a) (O p.a.f.a) a.a.k a.a.u a.a.j a.a.e) (O p.b.a),dI) from N (ip aV) (N (ae aP) (N (ip Z8) (N (ip dZ) (N (ae dG) (N (ae bF) (N (ip bR) (N (iN K) (ae fA))))))))))
 exact⟨ah,ai,aj,ak,gL,bi,aQ,dJ,bn,aS,eY,eZ,fe,fo,fq,fu,Z,jP,dw,aT,bG,bH⟩
 refine jT (dT bR) (sr (Kz (Zx #[W Zv 0 0, W Zv 0 0, V J]) (Mz Z ?_)))
 have jQ:=gM.pf [20]
 refine cO [W Zv 0 0, W Zv 0 0, V J] 0 jQ V8 ?_
 intro fB gV
 refine An Z (rt (tR (JY (gH (vs:= [Zx #[W Zv 0 0, W Zv 0 0, V J],vI aX]) Z (bW.cell Z (JW (cs:= [W Zv 0 0, W Zv 0 0, V J]) V7 V8 ((gV.cls (i:=0) Z).lit (k:=0) (m:=3) Z)) (bW.tmp Z bW.nil)) (M9 Z)) ?_)))
 have jR:Own w D fB (sepL (q0 Kg [])::_):=gV.sepNil
 have jS:Own w D fB (row Zv 0 0 (q0 bU.J []) 47 21::_):=jR.free (cK 47 21)
 have jV:Own w D fB (row Zv 0 0 (q0 aY.J []) 68 6::_):=jS.free (cK 68 6)
 have jW:=jV.pk [1,2,0,9,10,11,12,13,14,15,16,17,18]
 obtain⟨rfl,rfl,rfl,rfl⟩:=fO (zj hr (show _=(dL.q (O []) (O []) J,aX,aA.q (bD.q a.a.l a.a.r a.a.t a.a.s a.a.g (O a.a.b.a) (O p.a.a.a) (O p.a.f.a) a.a.k a.a.u a.a.j a.a.e) (O p.b.a),dI) from N (ip aV) (N (ae aP) (N (ip Z8) (N (ip dZ) (N (ae dG) (N (ae bF) (iN bR))))))))
 exact⟨Zv,0,Zv,0, [],bi,aQ,dJ,bn,aS,eY,eZ,fe,fo,fq,fu,Z,jW,Z,aT,bG,bH⟩
 refine jT (dT dZ) (sr (Kz (Zx #[W Zv 0 0, W Zv 0 0, V J]) ?_))
 refine cO [W Zv 0 0, W Zv 0 0, V J] 0 fV V8 ?_
 intro fC gY
 refine An Z (rt (tR (JY (gH (vs:= [Zx #[W Zv 0 0, W Zv 0 0, V J],vI 180]) Z (bW.cell Z (JW (cs:= [W Zv 0 0, W Zv 0 0, V J]) V7 V8 ((gY.cls (i:=0) Z).lit (k:=0) (m:=3) Z)) (bW.tmp Z bW.nil)) (M9 Z)) ?_)))
 have jX:Own w D fC (sepL (q0 Kg [])::_):=gY.sepNil
 have jY:Own w D fC (row Zv 0 0 (q0 bU.J []) 47 21::_):=jX.free (cK 47 21)
 have jZ:Own w D fC (row Zv 0 0 (q0 aY.J []) 68 6::_):=jY.free (cK 68 6)
 have j3:=jZ.px [1,2] [3,4] []
 obtain⟨rfl,rfl,rfl,rfl⟩:=fO (zj hr (show _=(dL.q (O []) (O []) J,180,a,y) from N (ip aV) (N (ae aP) (N (ip Z8) (iN dZ))))).symm
 exact⟨Zv,0,Zv,0, [],E,t,Z7,F,u,R,S,Z5,g,j,d,Z,j3,Z,Z1,aa,M⟩
 refine JO (rs:= []) 8 Z Z Z (dT Z8) f1 (JO (rs:= []) 9 Z Z Z (dT Z8) f1 (JO (rs:= []) 10 Z Z Z (dT Z8) f1 (JO (rs:= []) 11 Z Z Z (dT Z8) f1 (JO (rs:= []) 12 Z Z Z (dT Z8) f1 (JO (rs:= []) 13 Z Z Z (dT Z8) f1 (JO (rs:= []) 14 Z Z Z (dT Z8) f1 (JO (rs:= []) 15 Z Z Z (dT Z8) f1 (qt (v:= V Zk) 16 Z (λ _ _=>JL Z (dT Z8) Z) (qn (JK (jt (sr (Kz (Zx #[W Zv 0 0, W Zv 0 0, V J]) ?_)))))))))))))
 refine cO [W Zv 0 0, W Zv 0 0, V J] 0 fV V8 ?_
 intro fD gZ
 refine An Z (rt (tR (JY (gH (vs:= [Zx #[W Zv 0 0, W Zv 0 0, V J],vI 180]) Z (bW.cell Z (JW (cs:= [W Zv 0 0, W Zv 0 0, V J]) V7 V8 ((gZ.cls (i:=0) Z).lit (k:=0) (m:=3) Z)) (bW.tmp Z bW.nil)) (M9 Z)) ?_)))
 have j4:Own w D fD (sepL (q0 Kg [])::_):=gZ.sepNil
 have j5:Own w D fD (row Zv 0 0 (q0 bU.J []) 47 21::_):=j4.free (cK 47 21)
 have j6:Own w D fD (row Zv 0 0 (q0 aY.J []) 68 6::_):=j5.free (cK 68 6)
 have kg:=j6.px [1,2] [3,4] []
 obtain⟨rfl,rfl,rfl,rfl⟩:=fO (zj hr (show _=(dL.q (O []) (O []) J,180,a,y) from N (ip aV) (N (ae aP) (iN Z8)))).symm
 exact⟨Zv,0,Zv,0, [],E,t,Z7,F,u,R,S,Z5,g,j,d,Z,kg,Z,Z1,aa,M⟩
 by_cases bS:b.e=3
 refine Lr (Good':=λ Z9=> ∃ L',Own w D Z9 ([blk iP [W Zv 0 0, W Zv 0 0, V J] 52,blk dW (mF b Z6 z P B Q C) 47,blk g0 (kB a I (X a.a.b.a) r E (X a.a.a.a) t F (X a.a.f.a) u a.a.k Z2 R (X a.b.a) S Z0) 80,row E (X a.a.a.a) t (q0 bf.J Z7) 60 2,sepL (q0 J9 Z7),row F (X a.a.f.a) u (q0 (eN .u64) a.a.f.a) 32 1,row R (X a.b.a) S (q0 aW.J Z5) 99 4,sepL (q0 J5 Z5),blk Z2 [W Z3 (X G.a.a) L] 27,blk Z0 [W g (X y.a.a) j] 114,row g (X y.a.a) j (q0 aB.J d) 164 6,sepL (q0 J4 d),qE dX kI vF (gW (gW (gW (gW (gW (gW [] 3 (Zw 39)) 5 (Zw 40)) 8 (Zw 41)) 10 (Zw 42)) 11 (Zw 43)) 12 (Zw 44))]++L')) (λ _ ⟨L',h⟩=>⟨[qE dX kI vF (gW (gW (gW (gW (gW (gW [] 3 (Zw 39)) 5 (Zw 40)) 8 (Zw 41)) 10 (Zw 42)) 11 (Zw 43)) 12 (Zw 44))]++L',h⟩) ⟨_,dn⟩ (qt (v:= .tuple #[.func (.func 39) #[] #[], V Zk]) 3 Z (λ _ ⟨_,H9⟩=>K6 (k:=b.e) (d0:=(Zv:Option Nat)) (o:=(Zw (Zw 39))) (i:=12) H9 Z (rO v8) V5 Za Z Z (by rw [show b.e=3 from by omega]; rfl)) (qv 4 Z Z (qk (.func (.func 39) #[] #[]) 5 Z (qk (V Zk) 6 Z (qa 7 Z Z (qa 8 Z Z (qn (JK (JG (JG ?_))))))))))
 have ko:=dn.px [] [12] []
 refine mX 12 [] (JP (JP J3)) ko ?_
 intro nT kr
 refine qv 0 Z Z (qk (V J) 1 Z (qv 2 Z Z (JQ (v:= Zx (Zc (mF b Z6 z P B Q C))) (rs:= []) 3 Z Z Z Z f1 (λ _ ⟨_,H9⟩=>JS Z (JW (cs:=(mF b Z6 z P B Q C)) I3 J0 ((H9.cls (i:=1) Z).lit (k:=0) (m:=21) Z))) ?_)))
 obtain⟨bq,aI⟩:∃ q,kV b=q:=⟨_,Z⟩
 obtain⟨nU,iZ,bI,ja,mJ⟩:=JJ kr
 refine Ky 4 Z Z Z Z f1 (J6 Tryz.call22 Z (wZ _ _ b Z6 (X b.a.a) z P (X b.l.a) B aM Q (X b.b.a) C bq iZ Z (bI _ bB) Y aO Z (bI _ bC) Y (λ x9 h9=>⟨bI _ (af x9 h9).1,(af x9 h9).2⟩) Z (bI _ bE) Y g4 aI) ?_)
 rintro _ nV ⟨rfl,jb⟩
 have dO:=ja _ _ jb
 have mK: ¬ (bq=0)\/¬ (b.e=3)\/X b.a.a<=24:=yC aI
 refine⟨.inr ⟨_,dO⟩, ?_⟩
 refine JQ (v:= Zb (¬ (bq=0))) (rs:= []) 5 Z Z Z Z f1 (λ _ _=>JZ (e:= !(Zy (bq=0))) yk ZY) (qt (v:= Zb (¬ (bq=0))) 6 Z (λ _ _=>JH Z Z Z) (qv 7 Z Z ?_))
 by_cases s:bq=0
 refine JQ (v:=vP dW 2) (rs:= []) 8 Z Z Z (dF (Nc s)) f1 (λ _ _=>yk) (JQ (v:=vI b.C) (rs:= []) 9 Z Z Z (dF (Nc s)) f1 (λ _ ⟨_,H9⟩=>JS Z (bT.one B5 (Kk (H9.cls (i:=1) Z) Z))) (JQ (v:=vP g0 0) (rs:= []) 10 Z Z Z (dF (Nc s)) f1 (λ _ _=>JM Z) (JQ (v:=vP g0 0) (rs:= []) 11 Z Z Z (dF (Nc s)) f1 (λ _ _=>yk) (JQ (v:=vP g0 0) (rs:= []) 12 Z Z Z (dF (Nc s)) f1 (λ _ _=>yk) (JQ (v:=vP g0 0) (rs:= []) 13 Z Z Z (dF (Nc s)) f1 (λ _ _=>yk) (JQ (v:=vI a.a.l) (rs:= []) 14 Z Z Z (dF (Nc s)) f1 (λ _ ⟨_,H9⟩=>JS Z (bT.one B5 (Kk (H9.cls (i:=2) Z) Z))) (JQ (v:= Zb (¬ (b.C=a.a.l))) (rs:= []) 15 Z Z Z (dF (Nc s)) f1 (λ _ _=>JZ (e:= !(Zy (b.C=a.a.l))) yk ZY) (qt (v:= Zb (¬ (b.C=a.a.l))) 16 Z (λ _ _=>JH Z (dF (Nc s)) Z) (qn (JK ?_))))))))))
 by_cases bV:b.C=a.a.l
 refine jF (dF (Nc bV)) (sk (sr (Mz Z (Kz (Zx #[vP g0 0, W Zv 0 0, W Zv 0 0, V J, W Zv 0 0]) ?_))))
 refine cu [vP g0 0, W Zv 0 0, W Zv 0 0, V J, W Zv 0 0] 92 dO ?_
 intro aG nW fE
 refine Ar Z (Mz Z (Kz (vP g0 0) (Kz (vP g0 0) (La (gX a.a.l a.a.r a.a.t a.a.s a.a.g I (X a.a.b.a) r E (X a.a.a.a) t F (X a.a.f.a) u a.a.k a.a.u a.a.j.a a.a.j.b a.a.e.g a.a.e.u a.a.e.a a.a.e.j.a a.a.e.j.b) fE 3 F0 F1 ?_))))
 obtain⟨Z4,dx⟩:∃ q,iQ a.a=q:=⟨_,Z⟩
 obtain⟨nX,jc,jd,je,dz⟩:=JJ fE
 refine cl V4 (mG _ _ a.a I (X a.a.b.a) r E (X a.a.a.a) t Z7 F (X a.a.f.a) u Z4 jc Z (jd _ aN) Y Z1 Z (dz _ 4 _ Z bQ) Y (λ x9 h9=>⟨dz _ 5 _ Z (bM (P8.2 ⟨x9,h9,b3⟩) bQ),dH (φ:=λ _=>_) fE (i:=5) Z (bM (P8.2 ⟨x9,h9,b3⟩) dP)⟩) Z (dz _ 6 _ Z bQ) Y g6 (by first | assumption | exact λ _ h9=>absurd h9 v6 | exact Tk.hops f8) dx) ?_
 rintro _ nY ⟨dQ,bX,dR,bY,dS,bZ,ku,rfl,jf,fF⟩
 have dU:=je _ _ jf
 have mM:=bg fF
 have mO:=zr 0 dU
 have mP:=zr 1 dU
 have mQ:=zr 3 dU
 refine cu (gX 0 0 0 0 0 Zv 0 0 Zv 0 0 Zv 0 0 0 0 [] [] 0 0 0 [] []) 41 dU ?_
 intro nZ og kv
 refine cO (iL Z4 dQ bX dR bY dS bZ) 0 kv F1 ?_
 intro fG ib
 refine nt (JG (sr (Mz Z (Mz Z (La (mF b Z6 z P B Q C) ib 7 I3 J0 ?_)))))
 have kw:Own w D fG (sepL (q0 Kg [])::_):=ib.sepNil
 have ky:Own w D fG (row Zv 0 0 (q0 bU.J []) 47 21::_):=kw.free (cK 47 21)
 have kz:Own w D fG (jD Zv 0 0 (q0 dC.J []) 216 2::_):=Own.upQ (ky.free (cK 216 2))
 have ic:=kz.px [8,1,2] [] [3,4,5,6,7,9,10]
 have mR:=zr 1 ic
 obtain⟨⟨bu,bv,f,fH⟩,dA⟩:∃ q:Int × bK × aA × aZ,jK (bK.q (dL.q (O []) (O []) J) (O [])) b a G y=q:=⟨_,Z⟩
 obtain⟨oh,jg,aJ,jh,mU⟩:=LW ic
 refine WL.do Z (Kh Tryz.call39 Z Z (yH _ _ aG (bK.q (dL.q (O []) (O []) J) (O [])) Zv 0 [] Zv 0 Zv 0 b Z6 (X b.a.a) z P (X b.l.a) B aM Q (X b.b.a) C g0 a I r E t Z7 F u R S Z5 Z2 G Z3 L Z0 y g j d bu bv f fH jg Z (λ _ _=>bP.nil _ _ _) Y Z (aJ _ bB) Y aO Z (aJ _ bC) Y (λ x9 h9=>⟨aJ _ (af x9 h9).1,(af x9 h9).2⟩) Z (aJ _ bE) Y (aJ _ aN) Y Z1 aa (aJ _ bL) Y M f8 f8 j0 (by first | omega | exact Tk.n f8) (by first | omega | exact Tk.rows f8) f2 f2 f2 dA) ?_)
 rintro _ ol ⟨cz,cB,kC,om,oo,cZ,bz,fI,df,bA,ig,ik,il,iq,iw,iy,rfl,ji,fJ,bJ,dB,dD⟩
 have aU:=jh _ _ ji
 have mV:=bg fJ
 have mW:=bg bJ
 have mY:=bg dB
 have mZ:=bg dD
 have ng:=zr 1 aU
 have ni:=aU.rowCQ (i:=3) Z
 have nk:=zr 5 aU
 have nu:=zr 7 aU
 have ny:=zr 8 aU
 have nz:=zr 12 aU
 refine An Z (JG ?_)
 have iA:=aU.px [] [20] []
 refine JI (Mz Z (fw (Zb (¬ (bu=0))) (JZ (e:= !(Zy (bu=0))) yk ZY) (nt ?_)))
 by_cases dV:bu=0
 refine jF (dF (Nc dV)) (sk (JG ?_))
 refine mX 20 [20] (JP J3) iA ?_
 intro oq fK
 refine qv 0 Z Z (qv 1 Z Z (qp aG 0 2 Z (qp aG 1 3 Z (qp aG 2 4 Z (ql 5 Z 0 Tryz.isAgg44 Z Z Z (qk (vI 0) 6 Z (qk (V J) 7 Z (qv 8 Z Z (JQ (v:= Zx (Zc (iL Z4 dQ bX dR bY dS bZ))) (rs:= [[]]) 9 Z Z Z Z f1 (λ _ ⟨_,H9⟩=>JS Z (JW (cs:=(iL Z4 dQ bX dR bY dS bZ)) F0 F1 ((H9.cls (i:=14) Z).lit (k:=0) (m:=17) Z))) (JQ (v:=vP g0 0) (rs:= [[]]) 10 Z Z Z Z f1 (λ _ _=>JM Z) (JQ (v:=vP g0 0) (rs:= [[]]) 11 Z Z Z Z f1 (λ _ _=>yk) (JQ (v:=vP g0 0) (rs:= [[]]) 12 Z Z Z Z f1 (λ _ _=>yk) (JQ (v:= Zx (Zc (gX a.a.l a.a.r a.a.t a.a.s a.a.g I (X a.a.b.a) r cZ (X f.a.a.a) bz df (X f.a.f.a) bA f.a.k a.a.u a.a.j.a a.a.j.b a.a.e.g a.a.e.u a.a.e.a a.a.e.j.a a.a.e.j.b))) (rs:= [[]]) 13 Z Z Z Z f1 (λ _ ⟨_,H9⟩=>JS Z (JW (cs:=(gX a.a.l a.a.r a.a.t a.a.s a.a.g I (X a.a.b.a) r cZ (X f.a.a.a) bz df (X f.a.f.a) bA f.a.k a.a.u a.a.j.a a.a.j.b a.a.e.g a.a.e.u a.a.e.a a.a.e.j.a a.a.e.j.b)) F0 F1 ((H9.cls (i:=4) Z).lit (k:=0) (m:=17) Z))) ?_)))))))))))))
 obtain⟨aH,fM⟩:∃ q,oM Z4 (bD.q a.a.l a.a.r a.a.t a.a.s a.a.g (O a.a.b.a) (O f.a.a.a) (O f.a.f.a) f.a.k a.a.u a.a.j a.a.e)=q:=⟨_,Z⟩
 obtain⟨ou,jk,jl,jm,ax⟩:=JJ fK
 refine Ky 14 Z Z Z Z f1 (J6 Tryz.call23 Z (ui _ _ Z4 dQ (X Z4.b.a) bX dR (X Z4.a.a) bY ku dS (X Z4.f.a) bZ (bD.q a.a.l a.a.r a.a.t a.a.s a.a.g (O a.a.b.a) (O f.a.a.a) (O f.a.f.a) f.a.k a.a.u a.a.j a.a.e) I (X a.a.b.a) r cZ (X f.a.a.a) bz fI df (X f.a.f.a) bA aH jk Z (ax _ 15 _ Z bQ) Y fF Z (ax _ 16 _ Z bQ) Y (λ x9 h9=>⟨ax _ 17 _ Z (bM (P8.2 ⟨x9,h9,b3⟩) bQ),dH (φ:=λ _=>_) fK (i:=17) Z (bM (P8.2 ⟨x9,h9,b3⟩) dP)⟩) Z (ax _ 18 _ Z bQ) Y Z (jl _ aN) Y bJ Z (ax _ 5 _ Z bQ) Y (λ x9 h9=>⟨ax _ 6 _ Z (bM (P8.2 ⟨x9,h9,b3⟩) bQ),dH (φ:=λ _=>_) fK (i:=6) Z (bM (P8.2 ⟨x9,h9,b3⟩) dP)⟩) Z (ax _ 7 _ Z bQ) Y fM) ?_)
 rintro _ ow ⟨rfl,jo⟩
 have iC:=jm _ _ jo
 refine⟨.inr ⟨_,iC⟩, ?_⟩
 refine JQ (v:= V (!aH)) (rs:= [[]]) 15 Z Z Z Z f1 (λ _ _=>yk) (qt (v:= V (!aH)) 16 Z (λ _ _=>JH Z Z Z) (qp aG 0 17 Z (qp aG 1 18 Z (qp aG 3 19 Z ?_))))
 refine qe 20 Z (Do.store (vs:= [V (!aH)]) (o:=3) iC Z Z V6 Z Z Z Z ?_)
 intro oz kD
 refine⟨.inl f1, ?_⟩
 refine qn (JK (JG ?_))
 have iD:=kD.px [] [14,15,16,17,18] []
 refine JI (Mz Z (Kz (vP aG 0) (Kz (vP aG 1) (La ([W cz (X bv.a.a.a) cB, W Zv 0 0, V (!aH)]) iD 0 V7 V8 ?_))))
 have kE:=iD.pf [14]
 refine cO [W cz (X bv.a.a.a) cB, W Zv 0 0, V (!aH)] 0 kE V8 ?_
 intro kF iE
 refine An Z (rt (JY (gH (vs:= [Zx #[W cz (X bv.a.a.a) cB, W Zv 0 0, V (!aH)],vI 0]) Z (bW.cell Z (JW (cs:= [W cz (X bv.a.a.a) cB, W Zv 0 0, V (!aH)]) V7 V8 ((iE.cls (i:=0) Z).lit (k:=0) (m:=3) Z)) (bW.tmp Z bW.nil)) (M9 Z)) ?_))
 have kG:Own w D kF (row Zv 0 0 (q0 aY.J []) 68 6::_):=iE.free (cK 68 6)
 have kH:=kG.px [3,4] [1,2,5] []
 obtain⟨rfl,rfl,rfl,rfl⟩:=fO (zj hr (show _=(dL.q (O bv.a.a.a) (O []) (!aH),0,aA.q (bD.q a.a.l a.a.r a.a.t a.a.s a.a.g (O a.a.b.a) (O f.a.a.a) (O f.a.f.a) f.a.k a.a.u a.a.j a.a.e) (O f.b.a),fH) from N (iN aV) (N (ip bS) (N (ae aI) (N (ip s) (N (ip bV) (N (ae dx) (N (ae dA) (N (ip dV) (ae fM))))))))))
 exact⟨cz,cB,Zv,0,kC,cZ,bz,fI,df,bA,ig,ik,il,iq,iw,iy,Z,kH,fJ,bJ,dB,dD⟩
 refine jT (dT dV) (sr (Kz (Zx #[W Zv 0 0, W Zv 0 0, V J]) (Mz Z ?_)))
 have kJ:=iA.pf [19]
 refine cO [W Zv 0 0, W Zv 0 0, V J] 0 kJ V8 ?_
 intro fP iG
 refine An Z (rt (tR (JY (gH (vs:= [Zx #[W Zv 0 0, W Zv 0 0, V J],vI bu]) Z (bW.cell Z (JW (cs:= [W Zv 0 0, W Zv 0 0, V J]) V7 V8 ((iG.cls (i:=0) Z).lit (k:=0) (m:=3) Z)) (bW.tmp Z bW.nil)) (M9 Z)) ?_)))
 have kK:Own w D fP (sepL (q0 Kg [])::_):=iG.sepNil
 have kL:Own w D fP (row Zv 0 0 (q0 bU.J []) 47 21::_):=kK.free (cK 47 21)
 have kM:Own w D fP (row Zv 0 0 (q0 aY.J []) 68 6::_):=kL.free (cK 68 6)
 have kN:=kM.px [1,2] [3,4,5,6,7,18,19,20,21,22] []
 obtain⟨rfl,rfl,rfl,rfl⟩:=fO (zj hr (show _=(dL.q (O []) (O []) J,bu,aA.q (bD.q a.a.l a.a.r a.a.t a.a.s a.a.g (O a.a.b.a) (O f.a.a.a) (O f.a.f.a) f.a.k a.a.u a.a.j a.a.e) (O f.b.a),fH) from N (iN aV) (N (ip bS) (N (ae aI) (N (ip s) (N (ip bV) (N (ae dx) (N (ae dA) (iN dV)))))))))
 exact⟨Zv,0,Zv,0, [],cZ,bz,fI,df,bA,ig,ik,il,iq,iw,iy,Z,kN,Z,bJ,dB,dD⟩
 refine jT (dT bV) (sr (Kz (Zx #[W Zv 0 0, W Zv 0 0, V J]) ?_))
 refine cO [W Zv 0 0, W Zv 0 0, V J] 0 dO V8 ?_
 intro fQ iH
 refine An Z (rt (tR (JY (gH (vs:= [Zx #[W Zv 0 0, W Zv 0 0, V J],vI 180]) Z (bW.cell Z (JW (cs:= [W Zv 0 0, W Zv 0 0, V J]) V7 V8 ((iH.cls (i:=0) Z).lit (k:=0) (m:=3) Z)) (bW.tmp Z bW.nil)) (M9 Z)) ?_)))
 have kP:Own w D fQ (sepL (q0 Kg [])::_):=iH.sepNil
 have kQ:Own w D fQ (row Zv 0 0 (q0 bU.J []) 47 21::_):=kP.free (cK 47 21)
 have kR:Own w D fQ (row Zv 0 0 (q0 aY.J []) 68 6::_):=kQ.free (cK 68 6)
 have kS:=kR.px [1,2] [3,4] []
 obtain⟨rfl,rfl,rfl,rfl⟩:=fO (zj hr (show _=(dL.q (O []) (O []) J,180,a,y) from N (iN aV) (N (ip bS) (N (ae aI) (N (ip s) (iN bV)))))).symm
 exact⟨Zv,0,Zv,0, [],E,t,Z7,F,u,R,S,Z5,g,j,d,Z,kS,Z,Z1,aa,M⟩
 refine JO (rs:= []) 8 Z Z Z (dT s) f1 (JO (rs:= []) 9 Z Z Z (dT s) f1 (JO (rs:= []) 10 Z Z Z (dT s) f1 (JO (rs:= []) 11 Z Z Z (dT s) f1 (JO (rs:= []) 12 Z Z Z (dT s) f1 (JO (rs:= []) 13 Z Z Z (dT s) f1 (JO (rs:= []) 14 Z Z Z (dT s) f1 (JO (rs:= []) 15 Z Z Z (dT s) f1 (qt (v:= V Zk) 16 Z (λ _ _=>JL Z (dT s) Z) (qn (JK (jt (sr (Kz (Zx #[W Zv 0 0, W Zv 0 0, V J]) ?_)))))))))))))
 refine cO [W Zv 0 0, W Zv 0 0, V J] 0 dO V8 ?_
 intro fT iI
 refine An Z (rt (tR (JY (gH (vs:= [Zx #[W Zv 0 0, W Zv 0 0, V J],vI 180]) Z (bW.cell Z (JW (cs:= [W Zv 0 0, W Zv 0 0, V J]) V7 V8 ((iI.cls (i:=0) Z).lit (k:=0) (m:=3) Z)) (bW.tmp Z bW.nil)) (M9 Z)) ?_)))
 have kT:Own w D fT (sepL (q0 Kg [])::_):=iI.sepNil
 have kU:Own w D fT (row Zv 0 0 (q0 bU.J []) 47 21::_):=kT.free (cK 47 21)
 have kW:Own w D fT (row Zv 0 0 (q0 aY.J []) 68 6::_):=kU.free (cK 68 6)
 have kX:=kW.px [1,2] [3,4] []
 obtain⟨rfl,rfl,rfl,rfl⟩:=fO (zj hr (show _=(dL.q (O []) (O []) J,180,a,y) from N (iN aV) (N (ip bS) (N (ae aI) (iN s))))).symm
 exact⟨Zv,0,Zv,0, [],E,t,Z7,F,u,R,S,Z5,g,j,d,Z,kX,Z,Z1,aa,M⟩
 refine Lr (Good':=λ Z9=> ∃ L',Own w D Z9 ([blk iP [W Zv 0 0, W Zv 0 0, V J] 52,blk dW (mF b Z6 z P B Q C) 47,blk g0 (kB a I (X a.a.b.a) r E (X a.a.a.a) t F (X a.a.f.a) u a.a.k Z2 R (X a.b.a) S Z0) 80,row E (X a.a.a.a) t (q0 bf.J Z7) 60 2,sepL (q0 J9 Z7),row F (X a.a.f.a) u (q0 (eN .u64) a.a.f.a) 32 1,row R (X a.b.a) S (q0 aW.J Z5) 99 4,sepL (q0 J5 Z5),blk Z2 [W Z3 (X G.a.a) L] 27,blk Z0 [W g (X y.a.a) j] 114,row g (X y.a.a) j (q0 aB.J d) 164 6,sepL (q0 J4 d),qE dX kI vF (gW (gW (gW (gW (gW (gW [] 3 (Zw 39)) 5 (Zw 40)) 8 (Zw 41)) 10 (Zw 42)) 11 (Zw 43)) 12 (Zw 44))]++L')) (λ _ ⟨L',h⟩=>⟨[qE dX kI vF (gW (gW (gW (gW (gW (gW [] 3 (Zw 39)) 5 (Zw 40)) 8 (Zw 41)) 10 (Zw 42)) 11 (Zw 43)) 12 (Zw 44))]++L',h⟩) ⟨_,dn⟩ (qt (v:= .tuple #[Zj, V J]) 3 Z (λ _ ⟨_,H9⟩=>K6 (k:=b.e) (d0:=(Zv:Option Nat)) (o:=(Zv:Option (Option Nat))) (i:=12) H9 Z (rO v8) V5 Za Z Z (Hu Y Y Y Y Y Y)) (qv 4 Z Z (qk Zj 5 Z (qk (V J) 6 Z (qa 7 Z Z (qa 8 Z Z (qn (JK (JG (JG ?_))))))))))
 have kY:=dn.px [] [12] []
 refine mX 12 [] (JP (JP J3)) kY ?_
 intro oC kZ
 refine qv 0 Z Z (qk (V Zk) 1 Z (qv 2 Z Z (JO (rs:= []) 3 Z Z Z Z f1 (JO (rs:= []) 4 Z Z Z Z f1 (JO (rs:= []) 5 Z Z Z Z f1 (qt (v:= V Zk) 6 Z (λ _ _=>JL Z Z Z) (qv 7 Z Z (JO (rs:= []) 8 Z Z Z Z f1 (JO (rs:= []) 9 Z Z Z Z f1 (JO (rs:= []) 10 Z Z Z Z f1 (JO (rs:= []) 11 Z Z Z Z f1 (JO (rs:= []) 12 Z Z Z Z f1 (JO (rs:= []) 13 Z Z Z Z f1 (JO (rs:= []) 14 Z Z Z Z f1 (JO (rs:= []) 15 Z Z Z Z f1 (qt (v:= V Zk) 16 Z (λ _ _=>JL Z Z Z) (qn (JK (jt (sr (Kz (Zx #[W Zv 0 0, W Zv 0 0, V J]) ?_)))))))))))))))))))))
 refine cO [W Zv 0 0, W Zv 0 0, V J] 0 kZ V8 ?_
 intro fU iJ
 refine An Z (rt (tR (JY (gH (vs:= [Zx #[W Zv 0 0, W Zv 0 0, V J],vI 180]) Z (bW.cell Z (JW (cs:= [W Zv 0 0, W Zv 0 0, V J]) V7 V8 ((iJ.cls (i:=0) Z).lit (k:=0) (m:=3) Z)) (bW.tmp Z bW.nil)) (M9 Z)) ?_)))
 have lc:Own w D fU (sepL (q0 Kg [])::_):=iJ.sepNil
 have lg:Own w D fU (row Zv 0 0 (q0 bU.J []) 47 21::_):=lc.free (cK 47 21)
 have lh:Own w D fU (row Zv 0 0 (q0 aY.J []) 68 6::_):=lg.free (cK 68 6)
 have ll:=lh.px [1,2] [3,4] []
 obtain⟨rfl,rfl,rfl,rfl⟩:=fO (zj hr (show _=(dL.q (O []) (O []) J,180,a,y) from N (iN aV) (iN bS))).symm
 exact⟨Zv,0,Zv,0, [],E,t,Z7,F,u,R,S,Z5,g,j,d,Z,ll,Z,Z1,aa,M⟩
end
open List renaming Pairwise->V9,drop_left'->W0,eq_nil_of_length_eq_zero->s4,getElem?_eq_getElem->p2,mem_append_right->u9
def A7 (l:List Nat):Prop:=l.Pairwise (· < ·)
theorem Ck {l:List Nat} (hs:A7 l) {i j a b:Nat} (ha:l[i]? =Zw a) (hb:l[j]? =Zw b) (h:i < j):a < b:=by
  obtain⟨c,rfl⟩:=p0.1 ha
  obtain⟨d,rfl⟩:=p0.1 hb
  exact List.pairwise_iff_getElem.1 hs i j c d h
theorem Hw (a b:Nat):lV a b=Zy (a < b):=by
  unfold lV jh
  simp only [bG]
  rw [ZV f6]
  exact decide_eq_decide.2 Y
theorem zf {m:List Nat} (hs:A7 m) (k:Nat):∀ (f i j:Nat),j - i < f->i<=j->j<=X m->(∀ q p,m[q]? =Zw p->q < i->p < k)->(∀ q p,m[q]? =Zw p->j<=q->¬ p < k)->
    ∃ r,fH m k f i j=r/\r<=X m/\(∀ q p,m[q]? =Zw p->q < r->p < k)/\(∀ q p,m[q]? =Zw p->r<=q->¬ p < k)
  | 0,i,j,h,_,_,_,_=>Y
  | f+1,i,j,h,hij,hj,hl,hg=>by
    unfold fH
    by_cases b:(i:Int) < (j:Int)
    . obtain⟨x,hx⟩:∃ x,m[(i+j) / 2]? =Zw x:=⟨_,p2 Y⟩
      rw [ZK b,bG,bG,bu hx,Hw]
      by_cases a:x < k
      . rw [ZK (decide_eq_true a)]
        refine zf hs k f _ j Y Y hj (λ q p hq hlt=> ?_) hg
        rcases Nat.lt_or_ge q ((i+j) / 2) with e | e
        . exact Nat.lt_trans (Ck hs hq hx e) a
        . have:q=(i+j) / 2:=Y
          subst this
          rw [hx] at hq; cases hq
          exact a
      . rw [ZV (by rw [decide_eq_false a]; decide)]
        refine zf hs k f i _ Y Y Y hl (λ q p hq hge hlt=> ?_)
        rcases Nat.lt_or_ge ((i+j) / 2) q with e | e
        . exact a (Nat.lt_trans (Ck hs hx hq e) hlt)
        . have:q=(i+j) / 2:=Y
          subst this
          rw [hx] at hq; cases hq
          exact a hlt
    . rw [ZV b]
      have:i=j:=Y
      subst this
      exact⟨i,Z,hj,hl,hg⟩
theorem IV {m:List Nat} (hs:A7 m) (k:Nat):∃ a b f,m=a++b/\(∀ x ∈ a,x < k)/\(∀ x ∈ b,k<=x)/\eD m k=((X a:Int),f)/\(f=Zk->k ∈ m)/\(f=J->k ∉ m):=by
  obtain⟨r,l,t,c,g⟩:=zf hs k (U ((X m:Int) - 0)+1) 0 (X m) Y Y (Nat.le_refl _) (λ q p _ h=>Y) (λ q p hq h=>by have:=(p0.1 hq).1; omega)
  have hlen:X (t8 r m)=r:=by rw [List.length_take]; omega
  have ha:∀ x ∈ t8 r m,x < k:=λ p hp=>by
    obtain⟨j,hj⟩:=O1.1 hp
    have hjr:j < r:=by have:=(p0.1 hj).1; omega
    rw [List.getElem?_take,ZK hjr] at hj
    exact c j p hj hjr
  have hb:∀ x ∈ r6 r m,k<=x:=λ p hp=>by
    obtain⟨j,hj⟩:=O1.1 hp
    rw [List.getElem?_drop] at hj
    exact Nat.le_of_not_lt (g _ p hj Y)
  have key:∃ f,eD m k=((r:Int),f)/\(f=Zk->k ∈ m)/\(f=J->k ∉ m):=by
    unfold eD lw
    simp only [bG,l]
    by_cases i:(r:Int) < ((X m:Nat):Int)
    . obtain⟨x,hx⟩:∃ x,m[r]? =Zw x:=⟨_,p2 Y⟩
      rw [ZK i,bu hx]
      by_cases d:(x:Int)=(k:Int)
      . rw [ZK d]
        have:x=k:=Y
        subst this
        exact⟨Zk,Z,λ _=>List.mem_of_getElem? hx,λ h=>Bool.noConfusion h⟩
      . rw [ZV d]
        simp only [Bool.false_eq_true,if_false]
        refine⟨J,Z,λ h=>Bool.noConfusion h,λ _ hk=> ?_⟩
        obtain⟨j,hj⟩:=O1.1 hk
        rcases Nat.lt_trichotomy j r with e | e | e
        . have:=c j k hj e; omega
        . subst e; rw [hx] at hj; cases hj; exact d Z
        . have:=Ck hs hx hj e
          have:=g r x hx (Nat.le_refl _)
          omega
    . rw [ZV i]
      refine⟨J,Z,λ h=>Bool.noConfusion h,λ _ hk=> ?_⟩
      obtain⟨j,hj⟩:=O1.1 hk
      have n:=(p0.1 hj).1
      have:=c j k hj Y
      omega
  obtain⟨f,o,k2,s⟩:=key
  exact⟨t8 r m,r6 r m,f,(List.take_append_drop r m).symm,ha,hb,by rw [hlen]; exact o,k2,s⟩
structure Rs (ws:List bA) (hs:List df) (fin:List Nat) (rs:List aN):Prop where q::
  tk:Tk ws hs rs
  gt:Gt ws
  a:A7 fin
theorem IW:Tk [] [] []:=⟨V9.nil,V9.nil,λ _ h=>absurd h v6,Nb _,λ _ h=>absurd h v6,λ _ h=>absurd h v6,EZ,λ _ h=>absurd h v6⟩
theorem fA {p r:bD} (h:iQ p=r) (a:p.a.a= []:=by rfl) (b:p.f.a= []:=by rfl):Rs [] r.a.a r.f.a []:=by
  have e:p=r:=h
  subst e
  rw [a,b]
  exact⟨IW,λ _ h=>absurd h v6,V9.nil⟩
def Dn (m:aA) (n:Nat):Prop:=(n < m.a.k\/n ∈ m.a.f.a)/\¬ Tx m.b.a m.a.a.a n
theorem wQ {m r:aA} {low:Nat} (hs:A7 m.a.f.a) (h:jl m low=r):
    r.b=m.b/\r.a= { m.a with f:=r.a.f,k:=r.a.k } /\A7 r.a.f.a/\X r.a.f.a<=X m.a.f.a/\m.a.k<=r.a.k/\
      (∀ n ∈ m.a.f.a,n < r.a.k\/n ∈ r.a.f.a):=by
  obtain⟨a,b,f,d,ha,hb,hk,_,_⟩:=IV hs (max m.a.k low)
  unfold jl lv at h
  rw [hk] at h
  simp only [bG] at h
  have g:(if(0:Int)=(X a:Int) then m.a.f.a else t8 (U 0) m.a.f.a++r6 (U (X a:Int)) m.a.f.a)=b:=by
    rw [d]
    by_cases c:(0:Int)=(X a:Int)
    . rw [ZK c]
      have:a= []:=s4 Y
      rw [this]; rfl
    . rw [ZV c,O2,W0 Z]; rfl
  rw [g] at h
  subst h
  refine⟨Z,Z, ?_, ?_,Nat.le_max_left _ _,λ n hn=> ?_⟩
  . rw [d] at hs; exact(T0.1 hs).2.1
  . show X b<=_; rw [d,o2]; omega
  . rw [d] at hn
    rcases T1.1 hn with e | e
    . exact .inl (ha n e)
    . exact .inr e
theorem CP {m r:aA} {k:Nat} (hs:A7 m.a.f.a) (h:gy m k=r):
    A7 r.a.f.a/\r.a.k=m.a.k/\(∀ n ∈ m.a.f.a,n ∈ r.a.f.a)/\(k < m.a.k\/k ∈ r.a.f.a)/\X r.a.f.a<=X m.a.f.a+1:=by
  unfold gy at h
  by_cases c:(k:Int) < (m.a.k:Int)
  . rw [ZK c] at h
    subst h
    exact⟨hs,Z,λ _ h=>h, .inl Y,U7 _⟩
  . rw [ZV c] at h
    obtain⟨a,b,f,d,ha,hb,hk,j,l⟩:=IV hs k
    rw [hk] at h
    simp only [bG] at h
    cases f with
    | true=>
      rw [ZK Z] at h
      subst h
      exact⟨hs,Z,λ _ h=>h, .inr (j Z),U7 _⟩
    | false=>
      rw [ZV f6] at h
      have hn:=l Z
      have o:jM m.a.f.a (X a:Int) k=a++k::b:=by
        unfold jM
        rw [O2,d]
        by_cases g:(X a:Int)=((X (a++b):Nat):Int)
        . rw [ZK g]
          have:b= []:=s4 (by rw [o2] at g; omega)
          rw [this]; simp
        . rw [ZV g,List.take_left' Z,W0 Z]
      rw [o] at h
      subst h
      have i:∀ x ∈ b,k < x:=λ x hx=>Nat.lt_of_le_of_ne (hb x hx) λ e=>hn (by rw [d,e]; exact u9 _ hx)
      rw [d] at hs
      obtain⟨p,q,s⟩:=T0.1 hs
      refine⟨T0.2 ⟨p,List.pairwise_cons.2 ⟨i,q⟩,λ x hx y hy=> ?_⟩,Z,λ n hn=> ?_, .inr (u9 _ b3), ?_⟩
      . rcases List.mem_cons.1 hy with e | e
        . rw [e]; exact ha x hx
        . exact s x hx y e
      . rw [d] at hn
        rcases T1.1 hn with e | e
        . exact List.mem_append_left _ e
        . exact u9 _ (.tail _ e)
      . show X (a++k::b)<=_
        rw [d]; simp only [o2,q5]; omega
theorem AJ {p:bK} {m:aA} {s:StoreT} {tb:aZ} {e:Int} {t:bK} {m':aA} {tb':aZ} (h:dQ p m s tb=(e,t,m',tb')) (hk:Tk m.b.a m.a.a.a tb.a.a) (hg:Gt m.b.a) (hli:Li p.b.a tb.a.a):IR p m t m' tb':=Fu hk hg hli h
structure Kp (m m':aA) (tb':aZ):Prop where q::
  a:Rs m'.b.a m'.a.a.a m'.a.f.a tb'.a.a
  ow:m'.a.b=m.a.b
  e:X m'.a.f.a<=X m.a.f.a+1
  b:∀ n,Dn m n->Dn m' n
theorem Kp.same {m:aA} {tb:aZ} (h:Rs m.b.a m.a.a.a m.a.f.a tb.a.a):Kp m m tb:=⟨h,Z,U7 _,λ _ h=>h⟩
theorem Fw {p t:bK} {x:dK} {m m':aA} {s:StoreT} {tb tb':aZ} {e:Int} (hR:Rs m.b.a m.a.a.a m.a.f.a tb.a.a) (hf:X m.a.f.a<=999) (ho:X x.a.a<=24) (hl:p.b.a= [])
    (h:jK p x m s tb=(e,t,m',tb')):Kp m m' tb'/\t.a.b=p.a.b:=by
  unfold jK at h
  rw [bG] at h
  generalize hr:jl m x.k=r at h
  obtain⟨Z6,P,k,Q,R,G⟩:=wQ hR.a hr
  obtain⟨a,b,f,S,ha,hb,hk,Z8,H⟩:=IV k x.f
  rw [hk] at h
  simp only [bG] at h
  generalize c:aA.q (bD.q m.a.l m.a.r m.a.t m.a.s m.a.g (O m.a.b.a) (O m.a.a.a) (O r.a.f.a) r.a.k m.a.u m.a.j m.a.e) (O m.b.a)=m1 at h
  have q:∀ n,Dn m n->n < r.a.k\/n ∈ r.a.f.a:=λ n hn=>by
    rcases hn.1 with e | e
    . exact .inl Y
    . exact G n e
  have d:Kp m m1 tb:=by
    subst c
    exact⟨⟨hR.tk,hR.gt,k⟩,Z,by show X r.a.f.a<=_; omega,λ n hn=>⟨q n hn,hn.2⟩⟩
  have u:m1.b.a=m.b.a:=by rw [<- c]
  have A:m1.a.a.a=m.a.a.a:=by rw [<- c]
  have I:m1.a.f.a=r.a.f.a:=by rw [<- c]
  by_cases y:f=Zk
  . rw [ZK y] at h
    obtain⟨_,rfl,rfl,rfl⟩:=fO h
    exact⟨d,Z⟩
  rw [ZV y] at h
  have hnf:x.f ∉ r.a.f.a:=H (Bool.eq_false_iff.2 y)
  by_cases B:(x.f:Int) < (r.a.k:Int)
  . rw [ZK B] at h
    obtain⟨_,rfl,rfl,rfl⟩:=fO h
    exact⟨d,Z⟩
  rw [ZV B] at h
  cases hh:dX m1 x.f with
  | mk j bh=>
    rw [hh] at h
    cases bh with
    | true=>
      rw [ZK Z] at h
      generalize hv:fV _ _ _ _=v at h
      obtain⟨g,Z4⟩:=v
      obtain⟨_,rfl,rfl,rfl⟩:=fO h
      exact⟨d,Z⟩
    | false=>
      simp only [Bool.false_eq_true,if_false] at h
      cases hw:bX m1 x.f with
      | mk i bw=>
        rw [hw] at h
        cases bw with
        | true=>
          rw [ZK Z] at h
          obtain⟨_,rfl,rfl,rfl⟩:=fO h
          exact⟨d,Z⟩
        | false=>
          simp only [Bool.false_eq_true,if_false] at h
          cases hrf:jA m1 x with
          | true=>
            rw [hrf,ZK Z] at h
            obtain⟨_,rfl,rfl,rfl⟩:=fO h
            exact⟨d,Z⟩
          | false=>
            rw [hrf] at h
            simp only [Bool.false_eq_true,if_false] at h
            cases hlk:nX x.a.a with
            | mk l Z7=>
              rw [hlk] at h
              by_cases C:Z7=0
              . rw [ZK C] at h
                have z:=(uq hrf Z (by rw [A]; have:=hR.tk.n; omega) (by rw [u]; have:=hR.tk.n; omega) (by rw [I]; omega)).1
                have hll:=uX hlk
                obtain⟨D,E⟩:=zW (o:=x.a.a) (l:=l) d.a.tk d.a.gt hh Z hw Z z ho Y
                rw [u,A] at D
                rw [u] at E
                have txn:∀ n,Tx (t8 (U i) m.b.a++((bA.q x.f (O x.a.a) (O l) 0)::r6 (U i) m.b.a)) m.a.a.a n->n=x.f\/Tx m.b.a m.a.a.a n:=λ n hn=>by
                  rcases hn with ⟨w,hw,e⟩ | hn
                  . rcases lX.1 hw with g | g
                    . exact .inl (by rw [<- e,g])
                    . exact .inr (.inl ⟨w,g,e⟩)
                  . exact .inr (.inr hn)
                have dead:∀ n,Dn m n->¬ (n=x.f\/Tx m.b.a m.a.a.a n):=λ n hn hc=>by
                  rcases hc with e | e
                  . rcases q n hn with g | g
                    . omega
                    . exact hnf (by rw [<- e]; exact g)
                  . exact hn.2 e
                cases hg:fo p x.f (aA.q (bD.q m.a.l m.a.r m.a.t m.a.s m.a.g (O m.a.b.a) (O m.a.a.a) (O r.a.f.a) r.a.k m.a.u m.a.j m.a.e) (O (t8 (U i) m.b.a++((bA.q x.f (O x.a.a) (O l) 0)::r6 (U i) m.b.a)))) s tb with
                | mk K L=>
                  obtain⟨Z3,Z9,M⟩:=L
                  rw [hg] at h
                  have hG:=(rF D (by rw [hl]; exact x8 _) (by rw [hl]; exact λ _ h=>absurd h v6) E hg).1
                  by_cases F:K=0
                  . rw [ZK F] at h
                    simp only at h
                    generalize hlo:dQ _ _ _ _=v at h
                    obtain⟨Z1,Z2,Z0,Z5⟩:=v
                    have hL:=AJ hlo hG.tk hG.gt hG.b
                    obtain⟨_,rfl,rfl,rfl⟩:=fO h
                    exact⟨⟨⟨hL.tk,hL.gt,k⟩,Z,by show X r.a.f.a<=_; omega,λ n hn=>⟨q n hn,λ hc=>dead n hn (txn n (hG.a n (hL.a n hc)))⟩⟩,Z⟩
                  . rw [ZV F] at h
                    obtain⟨_,rfl,rfl,rfl⟩:=fO h
                    exact⟨⟨⟨hG.tk,hG.gt,k⟩,Z,by show X r.a.f.a<=_; omega,λ n hn=>⟨q n hn,λ hc=>dead n hn (txn n (hG.a n hc))⟩⟩,Z⟩
              . rw [ZV C] at h
                obtain⟨_,rfl,rfl,rfl⟩:=fO h
                exact⟨d,Z⟩
theorem zg (p:bK):∀ (o w:List aY),X (gG p o w)<=X w+X o
  | [],w=>Nat.le_add_right _ _
  | x::o,w=>by
    unfold gG
    rw [bG]
    have a:=zg p o (w++ [x])
    have b:=zg p o w
    simp only [o2,q5,List.length_nil] at *
    by_cases c:qc x=Zk
    . rw [ZK c]; omega
    . rw [ZV c]; omega
theorem Hy {p:bK} {o:List aY} {m:aA} {r:bK} (h:ji p o m=r):X r.a.b.a<=X p.a.b.a+X o:=by
  unfold ji at h
  rw [bG] at h
  subst h
  exact zg p o p.a.b.a
theorem GJ {m m1 r:aA} {rs:List aN} {k:Nat} {j:Int} {b:Bool} {hs':List df} (h:Tk m.b.a m.a.a.a rs) (hf:dX m k=(j,b))
    (c:(b=Zk/\hs'=t8 (U j) m.a.a.a++r6 (U j+1) m.a.a.a)\/(b=J/\hs'=m.a.a.a)) (hm:m1.b=m.b) (hd:dU m1 k=r):
    ∀ n,Tx r.b.a hs' n->n≠k/\Tx m.b.a m.a.a.a n:=by
  have hw:tL m1.b.a:=by rw [hm]; exact h.a
  rw [qo hw] at hd
  subst hd
  rw [hfind] at hf
  have e:hs'=ze k m.a.a.a:=by
    rcases c with ⟨rfl,e⟩ | ⟨rfl,e⟩
    . rw [e]; exact Dx h.hu hf
    . rw [e]; exact(Dy (hnot h.hu hf)).symm
  rw [e]
  rintro n (⟨w,hw,a⟩ | ⟨z,hz,a⟩)
  . have d:w ∈ qM k m.b.a:=by rw [<- hm]; exact hw
    obtain⟨f,g⟩:=T2.1 d
    exact⟨by rw [<- a]; exact of_decide_eq_true g, .inl ⟨w,f,a⟩⟩
  . obtain⟨f,g⟩:=T2.1 hz
    exact⟨by rw [<- a]; exact of_decide_eq_true g, .inr ⟨z,f,a⟩⟩
theorem Dz {p k l t:bK} {x:dK} {m m1 r rf g h m' mr:aA} {s:StoreT} {tb d tb':aZ} {e j:Int} {b:Bool} {hs':List df}
    (hd:dU m1 x.f=r) (hfi:gy g x.f=rf) (hrl:eO p x.f mr tb=(l,d)) (hlo:dQ k h s d=(e,t,m',tb'))
    (hR:Rs m.b.a m.a.a.a m.a.f.a tb.a.a) (hl:p.b.a= []) (hf:dX m x.f=(j,b))
    (f:(b=Zk/\hs'=t8 (U j) m.a.a.a++r6 (U j+1) m.a.a.a)\/(b=J/\hs'=m.a.a.a))
    (hm:m1.b=m.b) (c:g.a.f.a=m.a.f.a/\g.a.k=m.a.k) (i:k.b.a=l.b.a) (a:h.b.a=r.b.a/\h.a.a.a=hs'):
    Kp m (aA.q (bD.q m.a.l m.a.r m.a.t m.a.s m.a.g (O m.a.b.a) (O m'.a.a.a) (O rf.a.f.a) m.a.k m.a.u m.a.j m.a.e) (O m'.b.a)) tb'/\
      Dn (aA.q (bD.q m.a.l m.a.r m.a.t m.a.s m.a.g (O m.a.b.a) (O m'.a.a.a) (O rf.a.f.a) m.a.k m.a.u m.a.j m.a.e) (O m'.b.a)) x.f:=by
  obtain⟨u,v,w,z⟩:=yf (hs':=hs') hR.tk hR.gt hf f hm hd hl hrl
  have dx:=GJ (hs':=hs') hR.tk hf f hm hd
  obtain⟨y,A,o,q,f5⟩:=CP (by rw [c.1]; exact hR.a) hfi
  have hL:=AJ hlo (by rw [a.1,a.2]; exact u) (by rw [a.1]; exact v) (by rw [i]; exact w)
  have tx:∀ n,Tx m'.b.a m'.a.a.a n->n≠x.f/\Tx m.b.a m.a.a.a n:=λ n hn=>by
    have:=hL.a n hn
    rw [a.1,a.2] at this
    exact dx n this
  rw [c.1] at o f5
  rw [c.2] at q
  refine⟨⟨⟨hL.tk,hL.gt,y⟩,Z,f5,λ n hn=>⟨?_,λ hc=>hn.2 (tx n hc).2⟩⟩,⟨q,λ hc=>(tx _ hc).1 Z⟩⟩
  rcases hn.1 with e | e
  . exact .inl e
  . exact .inr (o n e)
theorem CQ {p t:bK} {x:dK} {m m':aA} {s:StoreT} {tb tb':aZ} {e:Int} (hR:Rs m.b.a m.a.a.a m.a.f.a tb.a.a) (hl:p.b.a= []) (hw:p.a.b.a= [])
    (h:iB p x m s tb=(e,t,m',tb')):
    Kp m m' tb'/\X t.a.b.a<=24/\(t.a.b.a≠ []->x.D=Zk/\Tx m.b.a m.a.a.a x.f/\Dn m' x.f):=by
  unfold iB at h
  simp only [bG] at h
  cases hf:dX m x.f with
  | mk j b=>
    rw [hf] at h
    cases b with
    | true=>
      rw [ZK Z] at h
      generalize hwr:(if x.D=Zk then _ else p.a.b.a)=Z9 at h
      generalize hd:dU _ _=r at h
      generalize hfi:gy _ _=rf at h
      generalize hrl:eO _ _ _ _=v at h
      obtain⟨w,l⟩:=v
      generalize hlo:dQ _ _ _ _=v at h
      obtain⟨y,A,B,n⟩:=v
      obtain⟨_,rfl,rfl,rfl⟩:=fO h
      obtain⟨o,k2⟩:=Dz hd hfi hrl hlo hR hl hf (.inl ⟨Z,Z⟩) Z ⟨Z,Z⟩ Z ⟨Z,Z⟩
      obtain⟨a,z,q,f,hz,ha⟩:∃ a z q,m.a.a.a=a++z::q/\z.f=x.f/\List.getD m.a.a.a (U j) ZZ=z:=by
        rw [hfind] at hf
        rcases qm hR.tk.hu x.f with ⟨a,z,q,f,hp,ha,hq,k⟩ | ⟨a,q,f,ha,hq,k⟩
        . rw [k] at hf
          have:j=(X a:Int):=(ZJ Prod.fst hf).symm
          refine⟨a,z,q,f,hp, ?_⟩
          rw [this,O2,f]
          simp
        . rw [k] at hf; exact Cj (ZJ Prod.snd hf).symm
      have g:z ∈ m.a.a.a:=by rw [f]; exact u9 _ b3
      refine⟨o, ?_,λ hne=>⟨?_, .inr ⟨z,g,hz⟩,k2⟩⟩
      . show X Z9<=24
        rw [<- hwr]
        by_cases c:x.D=Zk
        . rw [ZK c]
          generalize hcm:ji _ _ _=cm
          have u:=Hy hcm
          rw [ha] at u
          have k:=hR.tk.b z g
          have C:X p.a.b.a=0:=by rw [hw]; rfl
          simp only at u
          omega
        . rw [ZV c,hw]; decide
      . by_cases c:x.D=Zk
        . exact c
        . refine(hne ?_).elim
          show Z9= []
          rw [<- hwr,ZV c,hw]
    | false=>
      simp only [Bool.false_eq_true,if_false] at h
      cases hwa:bX m x.f with
      | mk i bw=>
        rw [hwa] at h
        cases bw with
        | true=>
          rw [ZK Z] at h
          generalize hd:dU _ _=r at h
          generalize hfi:gy _ _=rf at h
          generalize hrl:eO _ _ _ _=v at h
          obtain⟨w,l⟩:=v
          generalize hlo:dQ _ _ _ _=v at h
          obtain⟨y,A,B,n⟩:=v
          obtain⟨_,rfl,rfl,rfl⟩:=fO h
          obtain⟨o,k2⟩:=Dz hd hfi hrl hlo hR hl hf (.inr ⟨Z,Z⟩) Z ⟨Z,Z⟩ Z ⟨Z,Z⟩
          have d:p.a.b.a= []:=hw
          exact⟨o,by show X p.a.b.a<=24; rw [hw]; decide,λ hne=>(hne d).elim⟩
        | false=>
          simp only [Bool.false_eq_true,if_false] at h
          obtain⟨_,rfl,rfl,rfl⟩:=fO h
          have d:p.a.b.a= []:=hw
          exact⟨Kp.same hR,by show X p.a.b.a<=24; rw [hw]; decide,λ hne=>(hne d).elim⟩
theorem Hz {p t:bK} {x:dK} {m m':aA} {s:StoreT} {tb tb':aZ} {e:Int} (hR:Rs m.b.a m.a.a.a m.a.f.a tb.a.a) (h:iB p x m s tb=(e,t,m',tb')):m'.a.k=m.a.k:=by
  unfold iB at h
  simp only [bG] at h
  cases hf:dX m x.f with
  | mk j b=>
    rw [hf] at h
    cases b with
    | true=>
      rw [ZK Z] at h
      obtain⟨_,rfl,rfl,rfl⟩:=fO h
      rfl
    | false=>
      simp only [Bool.false_eq_true,if_false] at h
      by_cases c:(bX m x.f).2=Zk
      . rw [ZK c] at h
        obtain⟨_,rfl,rfl,rfl⟩:=fO h
        rfl
      . rw [ZV c] at h
        obtain⟨_,rfl,rfl,rfl⟩:=fO h
        rfl
theorem A8 {m m':aA} {x:dK} {s:StoreT} {tb tb':aZ} {d:dL} {e:Int} (hR:Rs m.b.a m.a.a.a m.a.f.a tb.a.a) (hf:X m.a.f.a<=999)
    (h:eF m x s tb=(d,e,m',tb')):
    Kp m m' tb'/\X d.b.a<=24/\(d.b.a≠ []->x.e=5/\x.D=Zk/\Tx m.b.a m.a.a.a x.f/\Dn m' x.f):=by
  unfold eF at h
  simp only [bG] at h
  have no:(dL.q (O []) (O []) J,(180:Int),m,tb)=(d,e,m',tb')->Kp m m' tb'/\X d.b.a<=24/\(d.b.a≠ []->x.e=5/\x.D=Zk/\Tx m.b.a m.a.a.a x.f/\Dn m' x.f):=λ h=>by
    obtain⟨rfl,rfl,rfl,rfl⟩:=fO h
    exact⟨Kp.same hR,f6,λ h=>absurd Z h⟩
  by_cases k:x.e=5
  . rw [ZK k] at h
    by_cases g:kV x=0
    . rw [ZK g] at h
      by_cases j:x.C=m.a.l
      . rw [ZK j] at h
        generalize hdc:iB _ _ _ _ _=v at h
        obtain⟨l,r,a,f⟩:=v
        obtain⟨b,k2,i⟩:=CQ hR Z Z hdc
        have hlow:a.a.k=m.a.k:=Hz hR hdc
        have hk:∀ (mm:aA),mm=aA.q (bD.q m.a.l m.a.r m.a.t m.a.s m.a.g (O m.a.b.a) (O a.a.a.a) (O a.a.f.a) m.a.k m.a.u m.a.j m.a.e) (O a.b.a)->Kp m mm f/\(Dn a x.f->Dn mm x.f):=λ mm hmm=>by
          subst hmm
          have dd:∀ n,Dn a n->Dn (aA.q (bD.q m.a.l m.a.r m.a.t m.a.s m.a.g (O m.a.b.a) (O a.a.a.a) (O a.a.f.a) m.a.k m.a.u m.a.j m.a.e) (O a.b.a)) n:=λ n hn=>⟨by rcases hn.1 with q | q; exact .inl (by rw [hlow] at q; exact q); exact .inr q,hn.2⟩
          exact⟨⟨⟨b.a.tk,b.a.gt,b.a.a⟩,Z,b.e,λ n hn=>dd n (b.b n hn)⟩,dd x.f⟩
        by_cases c:l=0
        . rw [ZK c] at h
          by_cases t:(X r.a.b.a:Int) > 0
          . rw [ZK t] at h
            obtain⟨rfl,rfl,rfl,rfl⟩:=fO h
            obtain⟨o,p⟩:=hk _ Z
            exact⟨o,k2,λ hne=>⟨k,(i hne).1,(i hne).2.1,p (i hne).2.2⟩⟩
          . rw [ZV t] at h
            obtain⟨rfl,rfl,rfl,rfl⟩:=fO h
            obtain⟨o,p⟩:=hk _ Z
            exact⟨o,k2,λ hne=>⟨k,(i hne).1,(i hne).2.1,p (i hne).2.2⟩⟩
        . rw [ZV c] at h
          obtain⟨rfl,rfl,rfl,rfl⟩:=fO h
          exact⟨(hk _ Z).1,Nb 24,λ h=>absurd Z h⟩
      . rw [ZV j] at h; exact no h
    . rw [ZV g] at h; exact no h
  . rw [ZV k] at h
    by_cases c:x.e=3
    . rw [ZK c] at h
      by_cases g:kV x=0
      . rw [ZK g] at h
        by_cases j:x.C=m.a.l
        . rw [ZK j] at h
          generalize hdc:jK _ _ _ _ _=v at h
          obtain⟨l,r,a,f⟩:=v
          have ho:X x.a.a<=24:=by
            rcases yC (x:=x) Z with q | q | q
            . exact absurd g q
            . exact absurd c q
            . exact q
          obtain⟨b,k2⟩:=Fw hR hf ho Z hdc
          have hk:Kp m (aA.q (bD.q m.a.l m.a.r m.a.t m.a.s m.a.g (O m.a.b.a) (O a.a.a.a) (O a.a.f.a) a.a.k m.a.u m.a.j m.a.e) (O a.b.a)) f:=⟨⟨b.a.tk,b.a.gt,b.a.a⟩,Z,b.e,λ n hn=>⟨(b.b n hn).1,(b.b n hn).2⟩⟩
          by_cases c:l=0
          . rw [ZK c] at h
            obtain⟨rfl,rfl,rfl,rfl⟩:=fO h
            exact⟨hk,Nb 24,λ h=>absurd Z h⟩
          . rw [ZV c] at h
            obtain⟨rfl,rfl,rfl,rfl⟩:=fO h
            exact⟨hk,Nb 24,λ h=>absurd Z h⟩
        . rw [ZV j] at h; exact no h
      . rw [ZV g] at h; exact no h
    . rw [ZV c] at h; exact no h
theorem qw {m m':aA} {x:dK} {s:StoreT} {tb tb':aZ} {d:dL} {e:Int} (hR:Rs m.b.a m.a.a.a m.a.f.a tb.a.a) (hf:X m.a.f.a<=999)
    (h:eF m x s tb=(d,e,m',tb')):
    Rs m'.b.a m'.a.a.a m'.a.f.a tb'.a.a/\(X m'.a.b.a=X m.a.b.a/\X m'.a.f.a<=X m.a.f.a+1/\X d.b.a<=24/\X m'.b.a+X m'.a.a.a<=6):=by
  obtain⟨k,w,_⟩:=A8 hR hf h
  exact⟨k.a,by rw [k.ow],k.e,w,k.a.tk.n⟩
theorem i2 {p:Prop}(h:p:=by first | assumption | (dsimp only; exact fA (by assumption))):p:=h
open IntKind renaming u64->I0
open List renaming getD->y4
open _root_.Go.Proofs.Tryz renaming call16->W1,call9->W3,func16->W2,isAgg50->W4,isAgg68->C6,sizeOf68->C5
section
open Go.RowKit
def wR:Bool:=
 bnd (lW (bD.q 1 0 0 1 0 (O ([(bO.q [] 1),(bO.q ([109]) 2)])) (O []) (O []) 0 0 (au.q [] []) (jd.q 0 0 0 (au.q [] [])))) λ p=>if p=0 then bnd (iQ (bD.q 1 0 0 1 0 (O ([(bO.q [] 1),(bO.q ([109]) 2)])) (O []) (O []) 0 0 (au.q [] []) (jd.q 0 0 0 (au.q [] [])))) λ a=>bnd (eF (aA.q (bD.q a.l (U (I0.wrap (((a.r:Nat):Int)+1))) a.t a.s a.g (O a.b.a) (O a.a.a) (O a.f.a) a.k a.u a.j a.e) (O [])) (dK.q 3 0 1 0 0 0 0 0 5 0 0 1 0 0 0 J (au.q [] []) (O ([(aY.q 2 ([97]) ([120]) [] [] 0)])) (O []) (O [])) (StoreT.q (O [])) (aZ.q (O []))) λ d=>bnd (eF (aA.q (bD.q a.l (U (I0.wrap (((a.r:Nat):Int)+1))) a.t a.s a.g (O a.b.a) (O d.2.2.1.a.a.a) (O d.2.2.1.a.f.a) d.2.2.1.a.k a.u a.j a.e) (O d.2.2.1.b.a)) (dK.q 3 0 1 0 0 0 0 0 6 0 0 1 0 0 0 J (au.q [] []) (O ([(aY.q 1 ([97]) [] [] [] 0)])) (O []) (O [])) (StoreT.q (O [])) d.2.2.2) λ e=>bnd (eF (aA.q (bD.q a.l (U (I0.wrap (((a.r:Nat):Int)+1))) a.t a.s a.g (O a.b.a) (O e.2.2.1.a.a.a) (O e.2.2.1.a.f.a) e.2.2.1.a.k a.u a.j a.e) (O e.2.2.1.b.a)) (dK.q 3 0 1 0 0 0 0 0 4 0 0 1 0 0 0 J (au.q [] []) (O ([(aY.q 1 ([97]) [] [] [] 0)])) (O []) (O [])) (StoreT.q (O [])) e.2.2.2) λ b=>bnd (qj (aA.q (bD.q a.l (U (I0.wrap (((a.r:Nat):Int)+1))) a.t a.s a.g (O a.b.a) (O b.2.2.1.a.a.a) (O b.2.2.1.a.f.a) b.2.2.1.a.k a.u a.j a.e) (O b.2.2.1.b.a))) λ j=>bnd (eF (aA.q (bD.q a.l (U (I0.wrap (((a.r:Nat):Int)+1))) a.t a.s a.g (O a.b.a) (O b.2.2.1.a.a.a) (O b.2.2.1.a.f.a) b.2.2.1.a.k a.u a.j a.e) (O b.2.2.1.b.a)) (dK.q 5 0 1 0 0 0 0 0 5 0 0 0 0 0 0 Zk (au.q [] []) (O []) (O []) (O [])) (StoreT.q (O [])) b.2.2.2) λ c=>bnd (eF (aA.q (bD.q a.l (U (I0.wrap (((a.r:Nat):Int)+1))) a.t a.s a.g (O a.b.a) (O c.2.2.1.a.a.a) (O c.2.2.1.a.f.a) c.2.2.1.a.k a.u a.j a.e) (O c.2.2.1.b.a)) (dK.q 3 0 1 0 0 0 0 0 7 0 0 1 0 0 0 J (au.q [] []) (O ([(aY.q 2 ([122]) [] [] [] 0)])) (O []) (O [])) (StoreT.q (O [])) c.2.2.2) λ f=>bnd (eF (aA.q (bD.q a.l (U (I0.wrap (((a.r:Nat):Int)+1))) a.t a.s a.g (O a.b.a) (O f.2.2.1.a.a.a) (O f.2.2.1.a.f.a) f.2.2.1.a.k a.u a.j a.e) (O f.2.2.1.b.a)) (dK.q 6 1 0 0 0 0 0 0 0 0 0 0 0 0 0 J (au.q [] []) (O []) (O []) (O [])) (StoreT.q (O [])) f.2.2.2) λ g=>bnd (jO (aA.q (bD.q a.l (U (I0.wrap (((a.r:Nat):Int)+1))) a.t a.s a.g (O a.b.a) (O g.2.2.1.a.a.a) (O g.2.2.1.a.f.a) g.2.2.1.a.k a.u a.j a.e) (O g.2.2.1.b.a))) λ i=>if((X d.1.a.a:Nat):Int)=1 then bnd (y4 d.1.a.a 0 ZZ) λ k=>if k.y=3 then if d.1.e=Zk then if((X e.1.a.a:Nat):Int)=1 then bnd (y4 e.1.a.a 0 ZZ) λ l=>if l.y=5 then if((X b.1.a.a:Nat):Int)=0 then if((X j:Nat):Int)=1 then if((X c.1.b.a:Nat):Int)=1 then if((X c.1.a.a:Nat):Int)=2 then bnd (y4 c.1.a.a 0 ZZ) λ m=>if m.e=6 then bnd (y4 c.1.a.a 1 ZZ) λ h=>if((h.f:Nat):Int)=4 then if((X h.l.a:Nat):Int)=1 then bnd (y4 h.l.a 0 ZZ) λ n=>if n.g=([120]) then if((X f.1.a.a:Nat):Int)=1 then bnd (y4 f.1.a.a 0 ZZ) λ o=>if o.y=4 then if g.2.1=180 then if((X i.a.a:Nat):Int)=1 then Zy (((i.r:Nat):Int)=1) else J else J else J else J else J else J else J else J else J else J else J else J else J else J else J else J else J else J
theorem CR (w D r0) (H:Own w D w []) (hr:wR=r0):
    Calls Tryz.prog 6 #[] w (dM λ v w'=>v= V r0/\Own w D w' []):=by
 refine cb Tryz.func6 ?_
 refine sr (Ar Z ?_)
 refine WL.do Z (J6 Tryz.call8 Z ?_ (λ _ _ k=>k))
 refine cb Tryz.func8 ?_
 refine sr ?_
 refine cu (gX 0 0 0 0 0 Zv 0 0 Zv 0 0 Zv 0 0 0 0 [] [] 0 0 0 [] []) 41 H ?_
 intro uy uz nE
 refine ns (Kz (Zx #[Zz ⟨Zc []⟩,vI 1]) (Kz (Zx #[Zz ⟨Zc ([109])⟩,vI 2]) ?_))
 refine jW [Zz ⟨Zc []⟩,vI 1, Zz ⟨Zc ([109])⟩,vI 2] 83 2 2 nE ?_
 intro bF uA iA
 replace iA:=Ke (y:=row bF 2 2 (q0 bO.J ([(bO.q [] 1),(bO.q ([109]) 2)])) 83 2) Z iA
 refine Kz (Zx (Zc (gX 1 0 0 1 0 bF 2 2 Zv 0 0 Zv 0 0 0 0 [] [] 0 0 0 [] []))) ?_
 have nG:=iA.pb [0]
 refine cO (gX 1 0 0 1 0 bF 2 2 Zv 0 0 Zv 0 0 0 0 [] [] 0 0 0 [] []) 0 nG F1 ?_
 intro uB jD
 refine nt (rt (JY (pV Z Z (JW (cs:=(gX 1 0 0 1 0 bF 2 2 Zv 0 0 Zv 0 0 0 0 [] [] 0 0 0 [] [])) F0 F1 ((jD.cls (i:=0) Z).lit (k:=0) (m:=17) Z))) (Kz (Zx #[W Zv 0 0]) ?_)))
 refine cu [W Zv 0 0] 27 jD ?_
 intro aO uC nH
 refine Kz (.iface 24 (vP aO 0)) ?_
 refine WL.do Z (J6 Tryz.call7 Z ?_ (λ _ _ k=>k))
 refine cb Tryz.func7 ?_
 refine JG ?_
 have nI:=nH.pk [0,2]
 refine JI ?_
 refine cu (gX 1 0 0 1 0 bF 2 2 Zv 0 0 Zv 0 0 0 0 [] [] 0 0 0 [] []) 41 nI ?_
 intro nJ uD jE
 refine Az Z (An Z (JG (sr (La (gX 1 0 0 1 0 bF 2 2 Zv 0 0 Zv 0 0 0 0 [] [] 0 0 0 [] []) jE 0 F0 F1 ?_))))
 obtain⟨fD,Z8⟩:∃ q,lW (bD.q 1 0 0 1 0 (O ([(bO.q [] 1),(bO.q ([109]) 2)])) (O []) (O []) 0 0 (au.q [] []) (jd.q 0 0 0 (au.q [] [])))=q:=⟨_,Z⟩
 obtain⟨uE,jF,rE,jG,jH⟩:=JJ jE
 refine cl Tryz.call17 (rR _ _ (bD.q 1 0 0 1 0 (O ([(bO.q [] 1),(bO.q ([109]) 2)])) (O []) (O []) 0 0 (au.q [] []) (jd.q 0 0 0 (au.q [] []))) bF 2 2 Zv 0 0 [] Zv 0 0 fD jF Z (jH _ 2 _ Z bQ) f9 Z Z (λ _ _=>bP.nil _ _ _) f9 (λ _ h9=>absurd h9 v6) Z (λ _ _=>bP.nil _ _ _) f9 g6 Z8) ?_
 rintro _ uF ⟨rfl,jI⟩
 have iB:=jG _ _ jI
 refine fw (Zb (¬ (fD=0))) (JZ (e:= !(Zy (fD=0))) yk ZY) (Mz Z ?_)
 by_cases af:fD=0
 refine gw (.iface 24 (vP aO 0)) (dF (Nc af)) (JM Z) (gw (V J) (dF (Nc af)) yk (fw (V J) (JH Z (dF (Nc af)) Z) (nt (jf (sk (sr (La (gX 1 0 0 1 0 bF 2 2 Zv 0 0 Zv 0 0 0 0 [] [] 0 0 0 [] []) iB 0 F0 F1 ?_)))))))
 obtain⟨a,K⟩:∃ q,iQ (bD.q 1 0 0 1 0 (O ([(bO.q [] 1),(bO.q ([109]) 2)])) (O []) (O []) 0 0 (au.q [] []) (jd.q 0 0 0 (au.q [] [])))=q:=⟨_,Z⟩
 obtain⟨uG,jJ,rF,jK,jL⟩:=JJ iB
 refine cl Tryz.call18 (mG _ _ (bD.q 1 0 0 1 0 (O ([(bO.q [] 1),(bO.q ([109]) 2)])) (O []) (O []) 0 0 (au.q [] []) (jd.q 0 0 0 (au.q [] []))) bF 2 2 Zv 0 0 [] Zv 0 0 a jJ Z (jL _ 2 _ Z bQ) f9 Z Z (λ _ _=>bP.nil _ _ _) f9 (λ _ h9=>absurd h9 v6) Z (λ _ _=>bP.nil _ _ _) f9 g6 (by first | assumption | exact λ _ h9=>absurd h9 v6 | exact Tk.hops f8) K) ?_
 rintro _ uH ⟨bz,az,iC,iD,iE,iG,nK,rfl,jM,fG⟩
 have fE:=jK _ _ jM
 have rH:=bg fG
 have rJ:=zr 0 fE
 have rM:=zr 1 fE
 have rO:=zr 3 fE
 have rP:X a.b.a=2:=ZJ (λ q=>X q.b.a) K.symm
 have rQ:X a.a.a=0:=ZJ (λ q=>X q.a.a) K.symm
 have rT:X a.f.a=0:=ZJ (λ q=>X q.f.a) K.symm
 refine Mz Z ?_
 refine WL.do Z (J6 Tryz.call19 Z ?_ (λ _ _ k=>k))
 refine cb Tryz.func19 ?_
 refine sr (Ar Z (Kz (Zx #[W Zv 0 0]) ?_))
 refine cu [W Zv 0 0] 114 fE ?_
 intro bA uI nL
 refine An Z (rt (rs (Kz (Zx #[vI a.l,vU a.r,vU a.t,vU a.s,vU a.g, W bz (X a.b.a) az, W iC (X a.a.a) iD, W iE (X a.f.a) iG,vU a.k,vU a.u, Zz ⟨Zc a.j.a⟩, Zz ⟨Zc a.j.b⟩,vU a.e.g,vU a.e.u,vU a.e.a, Zz ⟨Zc a.e.j.a⟩, Zz ⟨Zc a.e.j.b⟩, .iface 24 (vP aO 0), W Zv 0 0,vP bA 0, Zq Zv]) ?_)))
 refine cu [vI a.l,vU a.r,vU a.t,vU a.s,vU a.g, W bz (X a.b.a) az, W iC (X a.a.a) iD, W iE (X a.f.a) iG,vU a.k,vU a.u, Zz ⟨Zc a.j.a⟩, Zz ⟨Zc a.j.b⟩,vU a.e.g,vU a.e.u,vU a.e.a, Zz ⟨Zc a.e.j.a⟩, Zz ⟨Zc a.e.j.b⟩, .iface 24 (vP aO 0), W Zv 0 0,vP bA 0, Zq Zv] 80 nL ?_
 intro aH uJ jN
 refine Ar Z (Mz Z (Kz (vP aH 0) (Kz (vP aH 0) (Kz (vP aH 1) (Lz (vU a.r) jN 0 E3 (fw (.int .u64 ((U (I0.wrap ((a.r:Int)+1)):Nat):Int)) (JN (e:=I0.wrap ((a.r:Int)+1)) yk (lF _)) (Kz (vP aH 0) (Kz (vP aH 0) (Kz (vP aH 1) ?_)))))))))
 refine cO [.int .u64 ((U (I0.wrap ((a.r:Int)+1)):Nat):Int)] 1 jN Tryz.sizeOf32 ?_
 intro uK jP
 refine nt (JG (sr (Kz (vP nJ 6) (Lz (W Zv 0 0) jP 6 Tryz.isAgg34 (Kz (vI 0) (Mn Z (bo (Lj 200 (JG ?_)))))))))
 have nM:=jP.px [] [6] []
 refine JI (Kz (V J) (nt (JG (jf (Wp.exit (JV (JV (J2 (JK (sr (Mz Z (Az Z (An Z (rt (JY (kS Z Z Z) (Mz Z (Kz (vP aH 0) (Kz (vI 0) (Az Z (An Z (JG (JG ?_))))))))))))))))))))))
 have nN:=nM.px [] [7] []
 refine JI (Mz Z (Kz (V J) (Mz Z (gw (vI 0) Z (JM Z) (Gz (V J) Z (fw (V J) (JH Z Z Z) (nt (jf (sk (sr (Mz Z (Kz (Zx #[vI 2, Zz ⟨Zc ([97])⟩, Zz ⟨Zc ([120])⟩, Zz ⟨Zc []⟩, Zz ⟨Zc []⟩,vI 0]) ?_))))))))))))
 refine WL.do Z (J6 W1 Z ?_ (λ _ _ k=>k))
 refine cb W2 ?_
 refine sr ?_
 refine cu [vI 2, Zz ⟨Zc ([97])⟩, Zz ⟨Zc ([120])⟩, Zz ⟨Zc []⟩, Zz ⟨Zc []⟩,vI 0] 68 nN ?_
 intro uL uM nO
 refine cu (iF 0 0 0 0 0 0 0 0 0 0 0 0 0 0 0 J [] [] Zv 0 0 Zv 0 0 Zv 0 0) 47 nO ?_
 intro uN uO jQ
 refine ns (Mz Z (La ([vI 2, Zz ⟨Zc ([97])⟩, Zz ⟨Zc ([120])⟩, Zz ⟨Zc []⟩, Zz ⟨Zc []⟩,vI 0]) jQ 1 C6 C5 ?_))
 refine jW [vI 2, Zz ⟨Zc ([97])⟩, Zz ⟨Zc ([120])⟩, Zz ⟨Zc []⟩, Zz ⟨Zc []⟩,vI 0] 68 6 1 jQ ?_
 intro dm uP iH
 replace iH:=Ke (y:=row dm 1 1 (q0 aY.J ([(aY.q 2 ([97]) ([120]) [] [] 0)])) 68 6) Z iH
 refine Kz (Zx (Zc (iF 3 0 1 0 0 0 0 0 5 0 0 1 0 0 0 J [] [] dm 1 1 Zv 0 0 Zv 0 0))) ?_
 have nP:=iH.pf [1]
 refine cO (iF 3 0 1 0 0 0 0 0 5 0 0 1 0 0 0 J [] [] dm 1 1 Zv 0 0 Zv 0 0) 0 nP J0 ?_
 intro fF jR
 refine nt (rt (JY (pV Z Z (JW (cs:=(iF 3 0 1 0 0 0 0 0 5 0 0 1 0 0 0 J [] [] dm 1 1 Zv 0 0 Zv 0 0)) I3 J0 ((jR.cls (i:=0) Z).lit (k:=0) (m:=21) Z))) ?_))
 have nQ:Own w D fF (sepL (q0 J5 [])::_):=jR.sepNil
 have nR:Own w D fF (row Zv 0 0 (q0 aW.J []) 99 4::_):=nQ.free (cK 99 4)
 have nS:Own w D fF (sepL (q0 J4 [])::_):=nR.sepNil
 have nT:Own w D fF (row Zv 0 0 (q0 aB.J []) 164 6::_):=nS.free (cK 164 6)
 have iI:=nT.pf [7,10,11,12,2,3,13,8]
 have nU:=zr 13 iI
 have nV:=zr 4 iI
 obtain⟨⟨ag,fH,Z5,bI⟩,j⟩:∃ q:dL × Int × aA × aZ,eF (aA.q (bD.q a.l (U (I0.wrap ((a.r:Int)+1))) a.t a.s a.g (O a.b.a) (O a.a.a) (O a.f.a) a.k a.u a.j a.e) (O [])) (dK.q 3 0 1 0 0 0 0 0 5 0 0 1 0 0 0 J (au.q [] []) (O ([(aY.q 2 ([97]) ([120]) [] [] 0)])) (O []) (O [])) (StoreT.q (O [])) (aZ.q (O []))=q:=⟨_,Z⟩
 obtain⟨rU,iJ,nW,iK,dn⟩:=KI iI
 refine cl W3 (jU _ _ aH (aA.q (bD.q a.l (U (I0.wrap ((a.r:Int)+1))) a.t a.s a.g (O a.b.a) (O a.a.a) (O a.f.a) a.k a.u a.j a.e) (O [])) bz az iC iD nK iE iG Zv 0 [] (dK.q 3 0 1 0 0 0 0 0 5 0 0 1 0 0 0 J (au.q [] []) (O ([(aY.q 2 ([97]) ([120]) [] [] 0)])) (O []) (O [])) dm 1 1 Zv 0 0 [] Zv 0 0 aO (StoreT.q (O [])) Zv 0 bA (aZ.q (O [])) Zv 0 [] ag fH Z5 bI iJ (dn _ 3 _ Z bQ) Y fG Z Z (dn _ 1 _ Z bQ) f9 Z Z (λ _ _=>bP.nil _ _ _) f9 (λ _ h9=>absurd h9 v6) Z (λ _ _=>bP.nil _ _ _) f9 (λ _ _=>bP.nil _ _ _) Y Z (by first | assumption | exact Rs.tk f8 | (dsimp only; exact(fA f8).tk)) (by first | assumption | exact Rs.gt f8 | (dsimp only; exact(fA f8).gt)) (by first | omega | exact Tk.n f8 | exact(Rs.tk f8).n | (dsimp only; exact(fA f8).tk.n)) (by first | omega | exact Tk.rows f8 | exact(Rs.tk f8).rows | (dsimp only; exact(fA f8).tk.rows)) f2 f2 f2 j) ?_
 rintro _ rV ⟨aJ,cB,fI,fJ,jS,jT,jV,jX,jY,jZ,j3,j4,j5,j6,kg,ko,rfl,iM,dw,dx,dz,dA⟩
 have aQ:=iK _ _ iM
 have nX:=bg dw
 have nY:=bg dx
 have nZ:=bg dz
 have og:=bg dA
 have oh:=zr 0 aQ
 have ol:=zr 2 aQ
 have om:=zr 4 aQ
 have oo:=zr 6 aQ
 have oq:=zr 7 aQ
 have ou:=zr 11 aQ
 obtain⟨dB,dC⟩:=qw (m:=(aA.q (bD.q a.l (U (I0.wrap ((a.r:Int)+1))) a.t a.s a.g (O a.b.a) (O a.a.a) (O a.f.a) a.k a.u a.j a.e) (O []))) (tb:=(aZ.q (O []))) i2 g5 j
 replace dB:Rs Z5.b.a Z5.a.a.a Z5.a.f.a bI.a.a:=dB
 replace dC:X Z5.a.b.a=X a.b.a/\X Z5.a.f.a<=X a.f.a+1/\X ag.b.a<=24/\X Z5.b.a+X Z5.a.a.a<=6:=dC
 refine Mz Z (Kz (Zx #[W aJ (X ag.a.a) cB, W fI (X ag.b.a) fJ, V ag.e]) (Kz (vI fH) ?_))
 refine cu [W Zv 0 0, W Zv 0 0, V J] 52 aQ ?_
 intro dD rW kr
 refine cO [W aJ (X ag.a.a) cB, W fI (X ag.b.a) fJ, V ag.e] 0 kr V8 ?_
 intro rX ku
 refine An Z (JG ?_)
 have kv:=ku.px [] [14,15,16] []
 refine JI (Mz Z (Kz (Zx #[vI 1, Zz ⟨Zc ([97])⟩, Zz ⟨Zc []⟩, Zz ⟨Zc []⟩, Zz ⟨Zc []⟩,vI 0]) ?_))
 refine WL.do Z (J6 W1 Z ?_ (λ _ _ k=>k))
 refine cb W2 ?_
 refine sr ?_
 refine cu [vI 1, Zz ⟨Zc ([97])⟩, Zz ⟨Zc []⟩, Zz ⟨Zc []⟩, Zz ⟨Zc []⟩,vI 0] 68 kv ?_
 intro rY rZ kw
 refine cu (iF 0 0 0 0 0 0 0 0 0 0 0 0 0 0 0 J [] [] Zv 0 0 Zv 0 0 Zv 0 0) 47 kw ?_
 intro r9 si fK
 refine ns (Mz Z (La ([vI 1, Zz ⟨Zc ([97])⟩, Zz ⟨Zc []⟩, Zz ⟨Zc []⟩, Zz ⟨Zc []⟩,vI 0]) fK 1 C6 C5 ?_))
 refine jW [vI 1, Zz ⟨Zc ([97])⟩, Zz ⟨Zc []⟩, Zz ⟨Zc []⟩, Zz ⟨Zc []⟩,vI 0] 68 6 1 fK ?_
 intro bJ sj dE
 replace dE:=Ke (y:=row bJ 1 1 (q0 aY.J ([(aY.q 1 ([97]) [] [] [] 0)])) 68 6) Z dE
 refine Kz (Zx (Zc (iF 3 0 1 0 0 0 0 0 6 0 0 1 0 0 0 J [] [] bJ 1 1 Zv 0 0 Zv 0 0))) ?_
 have ky:=dE.pf [1]
 refine cO (iF 3 0 1 0 0 0 0 0 6 0 0 1 0 0 0 J [] [] bJ 1 1 Zv 0 0 Zv 0 0) 0 ky J0 ?_
 intro su fM
 refine nt (rt (JY (pV Z Z (JW (cs:=(iF 3 0 1 0 0 0 0 0 6 0 0 1 0 0 0 J [] [] bJ 1 1 Zv 0 0 Zv 0 0)) I3 J0 ((fM.cls (i:=0) Z).lit (k:=0) (m:=21) Z))) ?_))
 have fO:=fM.pb [0,1,2,3,4,5,6,17]
 have ow:=zr 17 fO
 obtain⟨⟨aj,fP,Z6,bK⟩,l⟩:∃ q:dL × Int × aA × aZ,eF (aA.q (bD.q a.l (U (I0.wrap ((a.r:Int)+1))) a.t a.s a.g (O a.b.a) (O Z5.a.a.a) (O Z5.a.f.a) Z5.a.k a.u a.j a.e) (O Z5.b.a)) (dK.q 3 0 1 0 0 0 0 0 6 0 0 1 0 0 0 J (au.q [] []) (O ([(aY.q 1 ([97]) [] [] [] 0)])) (O []) (O [])) (StoreT.q (O [])) bI=q:=⟨_,Z⟩
 obtain⟨sw,iO,oz,iP,dG⟩:=KI fO
 refine cl W3 (jU _ _ aH (aA.q (bD.q a.l (U (I0.wrap ((a.r:Int)+1))) a.t a.s a.g (O a.b.a) (O Z5.a.a.a) (O Z5.a.f.a) Z5.a.k a.u a.j a.e) (O Z5.b.a)) bz az jT jV jX jY jZ j3 j4 j5 (dK.q 3 0 1 0 0 0 0 0 6 0 0 1 0 0 0 J (au.q [] []) (O ([(aY.q 1 ([97]) [] [] [] 0)])) (O []) (O [])) bJ 1 1 Zv 0 0 [] Zv 0 0 aO (StoreT.q (O [])) Zv 0 bA bI j6 kg ko aj fP Z6 bK iO (dG _ 7 _ Z bQ) Y dx dz Z (dG _ 1 _ Z bQ) f9 Z Z (λ _ _=>bP.nil _ _ _) f9 (λ _ h9=>absurd h9 v6) Z (λ _ _=>bP.nil _ _ _) f9 (λ _ _=>bP.nil _ _ _) Y dA (by first | assumption | exact Rs.tk f8 | (dsimp only; exact(fA f8).tk)) (by first | assumption | exact Rs.gt f8 | (dsimp only; exact(fA f8).gt)) (by first | omega | exact Tk.n f8 | exact(Rs.tk f8).n | (dsimp only; exact(fA f8).tk.n)) (by first | omega | exact Tk.rows f8 | exact(Rs.tk f8).rows | (dsimp only; exact(fA f8).tk.rows)) f2 f2 f2 l) ?_
 rintro _ sD ⟨aK,cZ,fQ,fT,kz,kC,kD,kE,kF,kG,kH,kI,kJ,kK,kL,kM,rfl,iR,dI,dN,dO,dQ⟩
 have aS:=iP _ _ iR
 have oC:=bg dI
 have oD:=bg dN
 have oF:=bg dO
 have oG:=bg dQ
 have oH:=zr 0 aS
 have oI:=zr 2 aS
 have oJ:=zr 4 aS
 have oK:=zr 6 aS
 have oL:=zr 7 aS
 have oM:=zr 11 aS
 obtain⟨dR,dS⟩:=qw (m:=(aA.q (bD.q a.l (U (I0.wrap ((a.r:Int)+1))) a.t a.s a.g (O a.b.a) (O Z5.a.a.a) (O Z5.a.f.a) Z5.a.k a.u a.j a.e) (O Z5.b.a))) (tb:=bI) i2 g5 l
 replace dR:Rs Z6.b.a Z6.a.a.a Z6.a.f.a bK.a.a:=dR
 replace dS:X Z6.a.b.a=X a.b.a/\X Z6.a.f.a<=X Z5.a.f.a+1/\X aj.b.a<=24/\X Z6.b.a+X Z6.a.a.a<=6:=dS
 refine Mz Z (Kz (Zx #[W aK (X aj.a.a) cZ, W fQ (X aj.b.a) fT, V aj.e]) (Kz (vI fP) ?_))
 refine cu [W Zv 0 0, W Zv 0 0, V J] 52 aS ?_
 intro fU sF kN
 refine cO [W aK (X aj.a.a) cZ, W fQ (X aj.b.a) fT, V aj.e] 0 kN V8 ?_
 intro sG kP
 refine An Z (JG ?_)
 have kQ:=kP.px [] [14,15,16] []
 refine JI (Mz Z (Kz (Zx #[vI 1, Zz ⟨Zc ([97])⟩, Zz ⟨Zc []⟩, Zz ⟨Zc []⟩, Zz ⟨Zc []⟩,vI 0]) ?_))
 refine WL.do Z (J6 W1 Z ?_ (λ _ _ k=>k))
 refine cb W2 ?_
 refine sr ?_
 refine cu [vI 1, Zz ⟨Zc ([97])⟩, Zz ⟨Zc []⟩, Zz ⟨Zc []⟩, Zz ⟨Zc []⟩,vI 0] 68 kQ ?_
 intro sH sI kR
 refine cu (iF 0 0 0 0 0 0 0 0 0 0 0 0 0 0 0 J [] [] Zv 0 0 Zv 0 0 Zv 0 0) 47 kR ?_
 intro sJ sK fV
 refine ns (Mz Z (La ([vI 1, Zz ⟨Zc ([97])⟩, Zz ⟨Zc []⟩, Zz ⟨Zc []⟩, Zz ⟨Zc []⟩,vI 0]) fV 1 C6 C5 ?_))
 refine jW [vI 1, Zz ⟨Zc ([97])⟩, Zz ⟨Zc []⟩, Zz ⟨Zc []⟩, Zz ⟨Zc []⟩,vI 0] 68 6 1 fV ?_
 intro bL sM dU
 replace dU:=Ke (y:=row bL 1 1 (q0 aY.J ([(aY.q 1 ([97]) [] [] [] 0)])) 68 6) Z dU
 refine Kz (Zx (Zc (iF 3 0 1 0 0 0 0 0 4 0 0 1 0 0 0 J [] [] bL 1 1 Zv 0 0 Zv 0 0))) ?_
 have kT:=dU.pf [1]
 refine cO (iF 3 0 1 0 0 0 0 0 4 0 0 1 0 0 0 J [] [] bL 1 1 Zv 0 0 Zv 0 0) 0 kT J0 ?_
 intro sN fZ
 refine nt (rt (JY (pV Z Z (JW (cs:=(iF 3 0 1 0 0 0 0 0 4 0 0 1 0 0 0 J [] [] bL 1 1 Zv 0 0 Zv 0 0)) I3 J0 ((fZ.cls (i:=0) Z).lit (k:=0) (m:=21) Z))) ?_))
 have gm:=fZ.pf [7,8,9,10,11,12,13,14,15,16]
 have oN:=zr 21 gm
 obtain⟨⟨av,gp,g,bN⟩,o⟩:∃ q:dL × Int × aA × aZ,eF (aA.q (bD.q a.l (U (I0.wrap ((a.r:Int)+1))) a.t a.s a.g (O a.b.a) (O Z6.a.a.a) (O Z6.a.f.a) Z6.a.k a.u a.j a.e) (O Z6.b.a)) (dK.q 3 0 1 0 0 0 0 0 4 0 0 1 0 0 0 J (au.q [] []) (O ([(aY.q 1 ([97]) [] [] [] 0)])) (O []) (O [])) (StoreT.q (O [])) bK=q:=⟨_,Z⟩
 obtain⟨sO,iT,oO,iU,dV⟩:=KI gm
 refine cl W3 (jU _ _ aH (aA.q (bD.q a.l (U (I0.wrap ((a.r:Int)+1))) a.t a.s a.g (O a.b.a) (O Z6.a.a.a) (O Z6.a.f.a) Z6.a.k a.u a.j a.e) (O Z6.b.a)) bz az kC kD kE kF kG kH kI kJ (dK.q 3 0 1 0 0 0 0 0 4 0 0 1 0 0 0 J (au.q [] []) (O ([(aY.q 1 ([97]) [] [] [] 0)])) (O []) (O [])) bL 1 1 Zv 0 0 [] Zv 0 0 aO (StoreT.q (O [])) Zv 0 bA bK kK kL kM av gp g bN iT (dV _ 11 _ Z bQ) Y dN dO Z (dV _ 1 _ Z bQ) f9 Z Z (λ _ _=>bP.nil _ _ _) f9 (λ _ h9=>absurd h9 v6) Z (λ _ _=>bP.nil _ _ _) f9 (λ _ _=>bP.nil _ _ _) Y dQ (by first | assumption | exact Rs.tk f8 | (dsimp only; exact(fA f8).tk)) (by first | assumption | exact Rs.gt f8 | (dsimp only; exact(fA f8).gt)) (by first | omega | exact Tk.n f8 | exact(Rs.tk f8).n | (dsimp only; exact(fA f8).tk.n)) (by first | omega | exact Tk.rows f8 | exact(Rs.tk f8).rows | (dsimp only; exact(fA f8).tk.rows)) f2 f2 f2 o) ?_
 rintro _ sP ⟨dW,dX,gu,gy,sQ,gz,gB,kU,gD,gF,gG,dY,gH,kV,kW,kX,rfl,iV,iW,dZ,bX,d9⟩
 have aT:=iU _ _ iV
 have oP:=bg iW
 have oQ:=bg dZ
 have oU:=bg bX
 have oV:=bg d9
 have oW:=zr 0 aT
 have oZ:=zr 2 aT
 have o5:=zr 4 aT
 have o6:=zr 6 aT
 have o7:=zr 7 aT
 have o8:=zr 11 aT
 obtain⟨ed,ek⟩:=qw (m:=(aA.q (bD.q a.l (U (I0.wrap ((a.r:Int)+1))) a.t a.s a.g (O a.b.a) (O Z6.a.a.a) (O Z6.a.f.a) Z6.a.k a.u a.j a.e) (O Z6.b.a))) (tb:=bK) i2 g5 o
 replace ed:Rs g.b.a g.a.a.a g.a.f.a bN.a.a:=ed
 replace ek:X g.a.b.a=X a.b.a/\X g.a.f.a<=X Z6.a.f.a+1/\X av.b.a<=24/\X g.b.a+X g.a.a.a<=6:=ek
 refine Mz Z (Kz (Zx #[W dW (X av.a.a) dX, W gu (X av.b.a) gy, V av.e]) (Kz (vI gp) ?_))
 refine cu [W Zv 0 0, W Zv 0 0, V J] 52 aT ?_
 intro kY sS kZ
 refine cO [W dW (X av.a.a) dX, W gu (X av.b.a) gy, V av.e] 0 kZ V8 ?_
 intro sU lc
 refine An Z (JG ?_)
 have lg:=lc.px [] [14,15,16] []
 refine JI (Mz Z ?_)
 have df:=lg.pf [4]
 have o9:=zr 8 df
 obtain⟨bB,x⟩:∃ q,qj (aA.q (bD.q a.l (U (I0.wrap ((a.r:Int)+1))) a.t a.s a.g (O a.b.a) (O g.a.a.a) (O g.a.f.a) g.a.k a.u a.j a.e) (O g.b.a))=q:=⟨_,Z⟩
 obtain⟨sV,iX,pg,iY,bY⟩:=Kb df
 refine cl Tryz.call12 (vX _ _ aH (aA.q (bD.q a.l (U (I0.wrap ((a.r:Int)+1))) a.t a.s a.g (O a.b.a) (O g.a.a.a) (O g.a.f.a) g.a.k a.u a.j a.e) (O g.b.a)) bz az gz gB gD gF gG dY gH aO bA bB iX bX (bY _ 7 _ Z bQ) Y (λ x9 h9=>⟨bY _ 8 _ Z (bM (P8.2 ⟨x9,h9,b3⟩) bQ),dH (φ:=λ _=>_) df (i:=9) Z (bM (P8.2 ⟨x9,h9,b3⟩) dP),bY _ 8 _ Z (bM (P8.2 ⟨x9,h9, .tail _ b3⟩) bQ),dH (φ:=λ _=>_) df (i:=9) Z (bM (P8.2 ⟨x9,h9, .tail _ b3⟩) dP)⟩) f2 x) ?_
 rintro _ sW ⟨lh,ll,rfl,ja⟩
 have gI:=iY _ _ ja
 have pq:=zr 0 gI
 refine Ar Z (Mz Z (Kz (Zx (Zc (iF 5 0 1 0 0 0 0 0 5 0 0 0 0 0 0 Zk [] [] Zv 0 0 Zv 0 0 Zv 0 0))) ?_))
 have gJ:=gI.pf [1,6,7,8,9,10,11,12,13,14]
 have pu:=zr 23 gJ
 obtain⟨⟨L,gK,P,bR⟩,p⟩:∃ q:dL × Int × aA × aZ,eF (aA.q (bD.q a.l (U (I0.wrap ((a.r:Int)+1))) a.t a.s a.g (O a.b.a) (O g.a.a.a) (O g.a.f.a) g.a.k a.u a.j a.e) (O g.b.a)) (dK.q 5 0 1 0 0 0 0 0 5 0 0 0 0 0 0 Zk (au.q [] []) (O []) (O []) (O [])) (StoreT.q (O [])) bN=q:=⟨_,Z⟩
 obtain⟨sZ,jb,pz,jc,je⟩:=KI gJ
 refine cl W3 (jU _ _ aH (aA.q (bD.q a.l (U (I0.wrap ((a.r:Int)+1))) a.t a.s a.g (O a.b.a) (O g.a.a.a) (O g.a.f.a) g.a.k a.u a.j a.e) (O g.b.a)) bz az gz gB kU gD gF gG dY gH (dK.q 5 0 1 0 0 0 0 0 5 0 0 0 0 0 0 Zk (au.q [] []) (O []) (O []) (O [])) Zv 0 0 Zv 0 0 [] Zv 0 0 aO (StoreT.q (O [])) Zv 0 bA bN kV kW kX L gK P bR jb (je _ 13 _ Z bQ) Y dZ bX Z (λ _ _=>bP.nil _ _ _) f9 Z Z (λ _ _=>bP.nil _ _ _) f9 (λ _ h9=>absurd h9 v6) Z (λ _ _=>bP.nil _ _ _) f9 (λ _ _=>bP.nil _ _ _) Y d9 (by first | assumption | exact Rs.tk f8 | (dsimp only; exact(fA f8).tk)) (by first | assumption | exact Rs.gt f8 | (dsimp only; exact(fA f8).gt)) (by first | omega | exact Tk.n f8 | exact(Rs.tk f8).n | (dsimp only; exact(fA f8).tk.n)) (by first | omega | exact Tk.rows f8 | exact(Rs.tk f8).rows | (dsimp only; exact(fA f8).tk.rows)) f2 f2 f2 p) ?_
 rintro _ tq ⟨F,aU,eu,eB,gL,lm,lq,lu,lv,lw,lC,lD,lG,lH,lI,lJ,rfl,jg,bZ,eD,eG,eH⟩
 have aV:=jc _ _ jg
 have pE:=bg bZ
 have pF:=bg eD
 have pG:=bg eG
 have pI:=bg eH
 have pJ:=zr 0 aV
 have pK:=zr 2 aV
 have pM:=zr 4 aV
 have pO:=zr 6 aV
 have pQ:=zr 7 aV
 have pR:=zr 11 aV
 obtain⟨eO,eQ⟩:=qw (m:=(aA.q (bD.q a.l (U (I0.wrap ((a.r:Int)+1))) a.t a.s a.g (O a.b.a) (O g.a.a.a) (O g.a.f.a) g.a.k a.u a.j a.e) (O g.b.a))) (tb:=bN) i2 g5 p
 replace eO:Rs P.b.a P.a.a.a P.a.f.a bR.a.a:=eO
 replace eQ:X P.a.b.a=X a.b.a/\X P.a.f.a<=X g.a.f.a+1/\X L.b.a<=24/\X P.b.a+X P.a.a.a<=6:=eQ
 refine Mz Z (Kz (Zx #[W F (X L.a.a) aU, W eu (X L.b.a) eB, V L.e]) (Kz (vI gK) ?_))
 refine cu [W Zv 0 0, W Zv 0 0, V J] 52 aV ?_
 intro bC tu lK
 refine cO [W F (X L.a.a) aU, W eu (X L.b.a) eB, V L.e] 0 lK V8 ?_
 intro tC lL
 refine Ar Z (Mz Z (Kz (Zx #[vI 2, Zz ⟨Zc ([122])⟩, Zz ⟨Zc []⟩, Zz ⟨Zc []⟩, Zz ⟨Zc []⟩,vI 0]) ?_))
 refine WL.do Z (J6 W1 Z ?_ (λ _ _ k=>k))
 refine cb W2 ?_
 refine sr ?_
 refine cu [vI 2, Zz ⟨Zc ([122])⟩, Zz ⟨Zc []⟩, Zz ⟨Zc []⟩, Zz ⟨Zc []⟩,vI 0] 68 lL ?_
 intro tF tH lM
 refine cu (iF 0 0 0 0 0 0 0 0 0 0 0 0 0 0 0 J [] [] Zv 0 0 Zv 0 0 Zv 0 0) 47 lM ?_
 intro tJ tK gM
 refine ns (Mz Z (La ([vI 2, Zz ⟨Zc ([122])⟩, Zz ⟨Zc []⟩, Zz ⟨Zc []⟩, Zz ⟨Zc []⟩,vI 0]) gM 1 C6 C5 ?_))
 refine jW [vI 2, Zz ⟨Zc ([122])⟩, Zz ⟨Zc []⟩, Zz ⟨Zc []⟩, Zz ⟨Zc []⟩,vI 0] 68 6 1 gM ?_
 intro bS tL eT
 replace eT:=Ke (y:=row bS 1 1 (q0 aY.J ([(aY.q 2 ([122]) [] [] [] 0)])) 68 6) Z eT
 refine Kz (Zx (Zc (iF 3 0 1 0 0 0 0 0 7 0 0 1 0 0 0 J [] [] bS 1 1 Zv 0 0 Zv 0 0))) ?_
 have lN:=eT.pf [1]
 refine cO (iF 3 0 1 0 0 0 0 0 7 0 0 1 0 0 0 J [] [] bS 1 1 Zv 0 0 Zv 0 0) 0 lN J0 ?_
 intro tN gN
 refine nt (rt (JY (pV Z Z (JW (cs:=(iF 3 0 1 0 0 0 0 0 7 0 0 1 0 0 0 J [] [] bS 1 1 Zv 0 0 Zv 0 0)) I3 J0 ((gN.cls (i:=0) Z).lit (k:=0) (m:=21) Z))) ?_))
 have gP:=gN.pf [7,8,9,10,11,12,13,14,15,16]
 have pU:=zr 30 gP
 obtain⟨⟨ak,gQ,Q,bV⟩,r⟩:∃ q:dL × Int × aA × aZ,eF (aA.q (bD.q a.l (U (I0.wrap ((a.r:Int)+1))) a.t a.s a.g (O a.b.a) (O P.a.a.a) (O P.a.f.a) P.a.k a.u a.j a.e) (O P.b.a)) (dK.q 3 0 1 0 0 0 0 0 7 0 0 1 0 0 0 J (au.q [] []) (O ([(aY.q 2 ([122]) [] [] [] 0)])) (O []) (O [])) (StoreT.q (O [])) bR=q:=⟨_,Z⟩
 obtain⟨tO,jh,pW,ji,eU⟩:=KI gP
 refine cl W3 (jU _ _ aH (aA.q (bD.q a.l (U (I0.wrap ((a.r:Int)+1))) a.t a.s a.g (O a.b.a) (O P.a.a.a) (O P.a.f.a) P.a.k a.u a.j a.e) (O P.b.a)) bz az lm lq lu lv lw lC lD lG (dK.q 3 0 1 0 0 0 0 0 7 0 0 1 0 0 0 J (au.q [] []) (O ([(aY.q 2 ([122]) [] [] [] 0)])) (O []) (O [])) bS 1 1 Zv 0 0 [] Zv 0 0 aO (StoreT.q (O [])) Zv 0 bA bR lH lI lJ ak gQ Q bV jh (eU _ 20 _ Z bQ) Y eD eG Z (eU _ 1 _ Z bQ) f9 Z Z (λ _ _=>bP.nil _ _ _) f9 (λ _ h9=>absurd h9 v6) Z (λ _ _=>bP.nil _ _ _) f9 (λ _ _=>bP.nil _ _ _) Y eH (by first | assumption | exact Rs.tk f8 | (dsimp only; exact(fA f8).tk)) (by first | assumption | exact Rs.gt f8 | (dsimp only; exact(fA f8).gt)) (by first | omega | exact Tk.n f8 | exact(Rs.tk f8).n | (dsimp only; exact(fA f8).tk.n)) (by first | omega | exact Tk.rows f8 | exact(Rs.tk f8).rows | (dsimp only; exact(fA f8).tk.rows)) f2 f2 f2 r) ?_
 rintro _ tQ ⟨aL,dh,gT,gU,lQ,lS,lT,lU,lV,lX,lY,lZ,l5,l6,l7,l8,rfl,jk,eX,eY,eZ,fe⟩
 have aX:=ji _ _ jk
 have pX:=bg eX
 have pY:=bg eY
 have p8:=bg eZ
 have p9:=bg fe
 have qa:=zr 0 aX
 have qb:=zr 2 aX
 have qc:=zr 4 aX
 have qd:=zr 6 aX
 have qf:=zr 7 aX
 have qg:=zr 11 aX
 obtain⟨fo,fq⟩:=qw (m:=(aA.q (bD.q a.l (U (I0.wrap ((a.r:Int)+1))) a.t a.s a.g (O a.b.a) (O P.a.a.a) (O P.a.f.a) P.a.k a.u a.j a.e) (O P.b.a))) (tb:=bR) i2 g5 r
 replace fo:Rs Q.b.a Q.a.a.a Q.a.f.a bV.a.a:=fo
 replace fq:X Q.a.b.a=X a.b.a/\X Q.a.f.a<=X P.a.f.a+1/\X ak.b.a<=24/\X Q.b.a+X Q.a.a.a<=6:=fq
 refine Mz Z (Kz (Zx #[W aL (X ak.a.a) dh, W gT (X ak.b.a) gU, V ak.e]) (Kz (vI gQ) ?_))
 refine cu [W Zv 0 0, W Zv 0 0, V J] 52 aX ?_
 intro gV tT l9
 refine cO [W aL (X ak.a.a) dh, W gT (X ak.b.a) gU, V ak.e] 0 l9 V8 ?_
 intro tV ma
 refine An Z (JG ?_)
 have mf:=ma.px [] [14,15,16] []
 refine JI (Mz Z (Kz (Zx (Zc (iF 6 1 0 0 0 0 0 0 0 0 0 0 0 0 0 J [] [] Zv 0 0 Zv 0 0 Zv 0 0))) ?_))
 have gW:=mf.pf [4,5,6,7,8,9,10,11,12,13]
 have qh:=zr 31 gW
 obtain⟨⟨aM,bE,Z4,gY⟩,s⟩:∃ q:dL × Int × aA × aZ,eF (aA.q (bD.q a.l (U (I0.wrap ((a.r:Int)+1))) a.t a.s a.g (O a.b.a) (O Q.a.a.a) (O Q.a.f.a) Q.a.k a.u a.j a.e) (O Q.b.a)) (dK.q 6 1 0 0 0 0 0 0 0 0 0 0 0 0 0 J (au.q [] []) (O []) (O []) (O [])) (StoreT.q (O [])) bV=q:=⟨_,Z⟩
 obtain⟨tX,jl,qi,jm,jo⟩:=KI gW
 refine cl W3 (jU _ _ aH (aA.q (bD.q a.l (U (I0.wrap ((a.r:Int)+1))) a.t a.s a.g (O a.b.a) (O Q.a.a.a) (O Q.a.f.a) Q.a.k a.u a.j a.e) (O Q.b.a)) bz az lS lT lU lV lX lY lZ l5 (dK.q 6 1 0 0 0 0 0 0 0 0 0 0 0 0 0 J (au.q [] []) (O []) (O []) (O [])) Zv 0 0 Zv 0 0 [] Zv 0 0 aO (StoreT.q (O [])) Zv 0 bA bV l6 l7 l8 aM bE Z4 gY jl (jo _ 21 _ Z bQ) Y eY eZ Z (λ _ _=>bP.nil _ _ _) f9 Z Z (λ _ _=>bP.nil _ _ _) f9 (λ _ h9=>absurd h9 v6) Z (λ _ _=>bP.nil _ _ _) f9 (λ _ _=>bP.nil _ _ _) Y fe (by first | assumption | exact Rs.tk f8 | (dsimp only; exact(fA f8).tk)) (by first | assumption | exact Rs.gt f8 | (dsimp only; exact(fA f8).gt)) (by first | omega | exact Tk.n f8 | exact(Rs.tk f8).n | (dsimp only; exact(fA f8).tk.n)) (by first | omega | exact Tk.rows f8 | exact(Rs.tk f8).rows | (dsimp only; exact(fA f8).tk.rows)) f2 f2 f2 s) ?_
 rintro _ tY ⟨gZ,ib,ic,ig,tZ,mg,ik,mh,mi,il,mo,mq,uf,uh,ui,uj,rfl,jq,jr,fu,jv,jw⟩
 have bf:=jm _ _ jq
 have ql:=bg jr
 have qm:=bg fu
 have qo:=bg jv
 have qp:=bg jw
 have qx:=zr 0 bf
 have qy:=zr 2 bf
 have qz:=zr 4 bf
 have qA:=zr 6 bf
 have qB:=zr 7 bf
 have qC:=zr 11 bf
 obtain⟨fB,fC⟩:=qw (m:=(aA.q (bD.q a.l (U (I0.wrap ((a.r:Int)+1))) a.t a.s a.g (O a.b.a) (O Q.a.a.a) (O Q.a.f.a) Q.a.k a.u a.j a.e) (O Q.b.a))) (tb:=bV) i2 g5 s
 replace fB:Rs Z4.b.a Z4.a.a.a Z4.a.f.a gY.a.a:=fB
 replace fC:X Z4.a.b.a=X a.b.a/\X Z4.a.f.a<=X Q.a.f.a+1/\X aM.b.a<=24/\X Z4.b.a+X Z4.a.a.a<=6:=fC
 refine Mz Z (Kz (Zx #[W gZ (X aM.a.a) ib, W ic (X aM.b.a) ig, V aM.e]) (Kz (vI bE) ?_))
 refine cu [W Zv 0 0, W Zv 0 0, V J] 52 bf ?_
 intro uk ul mr
 refine cO [W gZ (X aM.a.a) ib, W ic (X aM.b.a) ig, V aM.e] 0 mr V8 ?_
 intro um mD
 refine An Z (JG ?_)
 have bW:=mD.px [] [0,1,2,3] []
 refine JI (Mz Z ?_)
 have qD:=zr 31 bW
 have qE:=zr 1 bW
 have qG:=zr 3 bW
 obtain⟨aC,z⟩:∃ q,jO (aA.q (bD.q a.l (U (I0.wrap ((a.r:Int)+1))) a.t a.s a.g (O a.b.a) (O Z4.a.a.a) (O Z4.a.f.a) Z4.a.k a.u a.j a.e) (O Z4.b.a))=q:=⟨_,Z⟩
 obtain⟨uo,jy,qH,jA,bG⟩:=Kb bW
 refine cl Tryz.call11 (rG _ _ aH (aA.q (bD.q a.l (U (I0.wrap ((a.r:Int)+1))) a.t a.s a.g (O a.b.a) (O Z4.a.a.a) (O Z4.a.f.a) Z4.a.k a.u a.j a.e) (O Z4.b.a)) bz az mg ik mh mi il mo mq aO bA aC jy (bG _ 30 _ Z bQ) Y fu (bG _ 0 _ Z bQ) Y (λ x9 h9=>⟨bG _ 1 _ Z (bM (P8.2 ⟨x9,h9,b3⟩) bQ),dH (φ:=λ _=>_) bW (i:=2) Z (bM (P8.2 ⟨x9,h9,b3⟩) dP)⟩) (bG _ 2 _ Z bQ) Y g6 (by first | assumption | exact Tk.hops f8 | exact(Rs.tk f8).hops) z) ?_
 rintro _ uq ⟨mE,mF,iq,iw,mH,mI,ut,rfl,jB,jC⟩
 have di:=jA _ _ jB
 have qI:=bg jC
 have qJ:=zr 0 di
 have qK:=zr 1 di
 have qL:=zr 3 di
 refine cu (gX 0 0 0 0 0 Zv 0 0 Zv 0 0 Zv 0 0 0 0 [] [] 0 0 0 [] []) 41 di ?_
 intro iy uu mJ
 refine cO (iL aC mE mF iq iw mH mI) 0 mJ F1 ?_
 intro uw mK
 refine nt (JG ?_)
 have b:=mK.px [] [5,6,7,8,9,10,11,12,13,14,36] []
 refine JI (Kz (vP dD 0) (Lz (W aJ (X ag.a.a) cB) b 22 W4 (Kz (vJ (X ag.a.a)) (Kz (Zb ((X ag.a.a:Int)=1)) (Mz Z ?_)))))
 by_cases f:(X ag.a.a:Int)=1
 refine Gz (vP dD 0) (dT f) (Gl (W aJ (X ag.a.a) cB) (dT f) b 22 W4 ?_)
 obtain⟨Z3,bi⟩:=dJ (ls:=jS) (i:=0) bU.len f6 (b.rds (i:=23) Z) f4
 have G:=gq dw bi
 have qM:X Z3.a.a<=Z3.a.c/\X Z3.a.a<=9223372036854775807:=dH b (i:=24) Z (φ:=λ _=>_) (bM (P8.2 ⟨Z3,E1 bi,b3⟩) dP)
 have qN:X Z3.l.a=X (r7 aR.abs Z3.l.a):=bg (Z:r7 aR.abs Z3.l.a=r7 aR.abs Z3.l.a)
 have qO:X Z3.l.a<=Z3.l.c/\X Z3.l.a<=9223372036854775807:=dH b (i:=24) Z (φ:=λ _=>_) (bM (P8.2 ⟨Z3,E1 bi, .tail _ b3⟩) dP)
 have qP:X Z3.b.a<=Z3.b.c/\X Z3.b.a<=9223372036854775807:=dH b (i:=24) Z (φ:=λ _=>_) (bM (P8.2 ⟨Z3,E1 bi, .tail _ b4⟩) dP)
 refine gw (Zq (Zw ⟨ab aJ,ao aJ+0 *21,Zv⟩)) (dT f) (JU (ug) Z Z ((b.rds (i:=23) Z).addr (i:=0) Y) Y) (Gz (Zq (Zw ⟨ab aJ,ao aJ+0 *21+4,Zv⟩)) (dT f) (gw (vI Z3.y) (dT f) (JS Z (bT.one B5 (((b.rds (i:=23) Z).elem bU.len bi f6).at_ (k:=4) Z))) (Gz (Zb (Z3.y=3)) (dT f) (fw (Zb (Z3.y=3)) (JL Z (dT f) Z) (Mz Z ?_)))))
 by_cases I:Z3.y=3
 refine Gz (vP dD 2) (dT I) (Gl (V ag.e) (dT I) b 22 Tryz.isAgg4 (fw (V ag.e) (JL Z (dT I) Z) (Mz Z ?_)))
 rcases Nf (ag.e) with t | t
 refine Gz (vP fU 0) t (Gl (W aK (X aj.a.a) cZ) t b 18 W4 (Gz (vJ (X aj.a.a)) t (Gz (Zb ((X aj.a.a:Int)=1)) t (fw (Zb ((X aj.a.a:Int)=1)) (JL Z t Z) (Mz Z ?_)))))
 by_cases h:(X aj.a.a:Int)=1
 refine Gz (vP fU 0) (dT h) (Gl (W aK (X aj.a.a) cZ) (dT h) b 18 W4 ?_)
 obtain⟨Z9,bn⟩:=dJ (ls:=kz) (i:=0) bU.len f6 (b.rds (i:=19) Z) f4
 have Z0:=gq dI bn
 have qQ:X Z9.a.a<=Z9.a.c/\X Z9.a.a<=9223372036854775807:=dH b (i:=20) Z (φ:=λ _=>_) (bM (P8.2 ⟨Z9,E1 bn,b3⟩) dP)
 have qR:X Z9.l.a=X (r7 aR.abs Z9.l.a):=bg (Z:r7 aR.abs Z9.l.a=r7 aR.abs Z9.l.a)
 have qU:X Z9.l.a<=Z9.l.c/\X Z9.l.a<=9223372036854775807:=dH b (i:=20) Z (φ:=λ _=>_) (bM (P8.2 ⟨Z9,E1 bn, .tail _ b3⟩) dP)
 have qV:X Z9.b.a<=Z9.b.c/\X Z9.b.a<=9223372036854775807:=dH b (i:=20) Z (φ:=λ _=>_) (bM (P8.2 ⟨Z9,E1 bn, .tail _ b4⟩) dP)
 refine gw (Zq (Zw ⟨ab aK,ao aK+0 *21,Zv⟩)) (dT h) (JU (ug) Z Z ((b.rds (i:=19) Z).addr (i:=0) Y) Y) (Gz (Zq (Zw ⟨ab aK,ao aK+0 *21+4,Zv⟩)) (dT h) (gw (vI Z9.y) (dT h) (JS Z (bT.one B5 (((b.rds (i:=19) Z).elem bU.len bn f6).at_ (k:=4) Z))) (Gz (Zb (Z9.y=5)) (dT h) (fw (Zb (Z9.y=5)) (JL Z (dT h) Z) (Mz Z ?_)))))
 by_cases B:Z9.y=5
 refine Gz (vP kY 0) (dT B) (Gl (W dW (X av.a.a) dX) (dT B) b 14 W4 (Gz (vJ (X av.a.a)) (dT B) (Gz (Zb ((X av.a.a:Int)=0)) (dT B) (fw (Zb ((X av.a.a:Int)=0)) (JL Z (dT B) Z) (Mz Z ?_)))))
 by_cases R:(X av.a.a:Int)=0
 refine gw (W lh (X bB) ll) (dT R) (JM Z) (Gz (vJ (X bB)) (dT R) (Gz (Zb ((X bB:Int)=1)) (dT R) (fw (Zb ((X bB:Int)=1)) (JL Z (dT R) Z) (Mz Z ?_))))
 by_cases M:(X bB:Int)=1
 refine Gz (vP bC 1) (dT M) (Gl (W eu (X L.b.a) eB) (dT M) b 9 Tryz.isAgg44 (Gz (vJ (X L.b.a)) (dT M) (Gz (Zb ((X L.b.a:Int)=1)) (dT M) (fw (Zb ((X L.b.a:Int)=1)) (JL Z (dT M) Z) (Mz Z ?_)))))
 by_cases S:(X L.b.a:Int)=1
 refine Gz (vP bC 0) (dT S) (Gl (W F (X L.a.a) aU) (dT S) b 9 W4 (Gz (vJ (X L.a.a)) (dT S) (Gz (Zb ((X L.a.a:Int)=2)) (dT S) (fw (Zb ((X L.a.a:Int)=2)) (JL Z (dT S) Z) (Mz Z ?_)))))
 by_cases C:(X L.a.a:Int)=2
 refine Gz (vP bC 0) (dT C) (Gl (W F (X L.a.a) aU) (dT C) b 9 W4 ?_)
 obtain⟨Z1,bq⟩:=dJ (ls:=gL) (i:=0) bU.len f6 (b.rds (i:=10) Z) f4
 have ay:=gq bZ bq
 have qW:X Z1.a.a<=Z1.a.c/\X Z1.a.a<=9223372036854775807:=dH b (i:=11) Z (φ:=λ _=>_) (bM (P8.2 ⟨Z1,E1 bq,b3⟩) dP)
 have qX:X Z1.l.a=X (r7 aR.abs Z1.l.a):=bg (Z:r7 aR.abs Z1.l.a=r7 aR.abs Z1.l.a)
 have qY:X Z1.l.a<=Z1.l.c/\X Z1.l.a<=9223372036854775807:=dH b (i:=11) Z (φ:=λ _=>_) (bM (P8.2 ⟨Z1,E1 bq, .tail _ b3⟩) dP)
 have qZ:X Z1.b.a<=Z1.b.c/\X Z1.b.a<=9223372036854775807:=dH b (i:=11) Z (φ:=λ _=>_) (bM (P8.2 ⟨Z1,E1 bq, .tail _ b4⟩) dP)
 refine gw (Zq (Zw ⟨ab F,ao F+0 *21,Zv⟩)) (dT C) (JU (ug) Z Z ((b.rds (i:=10) Z).addr (i:=0) Y) Y) (Gz (Zq (Zw ⟨ab F,ao F+0 *21,Zv⟩)) (dT C) (gw (vI Z1.e) (dT C) (JS Z (bT.one B5 (((b.rds (i:=10) Z).elem bU.len bq f6).at_ (k:=0) Z))) (Gz (Zb (Z1.e=6)) (dT C) (fw (Zb (Z1.e=6)) (JL Z (dT C) Z) (Mz Z ?_)))))
 by_cases Z7:Z1.e=6
 refine Gz (vP bC 0) (dT Z7) (Gl (W F (X L.a.a) aU) (dT Z7) b 9 W4 ?_)
 obtain⟨d,ai⟩:=dJ (ls:=gL) (i:=1) bU.len f6 (b.rds (i:=10) Z) f4
 have aD:=gq bZ ai
 have q8:X d.a.a<=d.a.c/\X d.a.a<=9223372036854775807:=dH b (i:=11) Z (φ:=λ _=>_) (bM (P8.2 ⟨d,E1 ai,b3⟩) dP)
 have q9:X d.l.a=X (r7 aR.abs d.l.a):=bg (Z:r7 aR.abs d.l.a=r7 aR.abs d.l.a)
 have rf:X d.l.a<=d.l.c/\X d.l.a<=9223372036854775807:=dH b (i:=11) Z (φ:=λ _=>_) (bM (P8.2 ⟨d,E1 ai, .tail _ b3⟩) dP)
 have rq:X d.b.a<=d.b.c/\X d.b.a<=9223372036854775807:=dH b (i:=11) Z (φ:=λ _=>_) (bM (P8.2 ⟨d,E1 ai, .tail _ b4⟩) dP)
 refine gw (Zq (Zw ⟨ab F,ao F+1 *21,Zv⟩)) (dT Z7) (JU (ug) Z Z ((b.rds (i:=10) Z).addr (i:=1) Y) Y) (Gz (Zq (Zw ⟨ab F,ao F+1 *21+8,Zv⟩)) (dT Z7) (gw (vU d.f) (dT Z7) (JS Z (bT.one E3 (((b.rds (i:=10) Z).elem bU.len ai f6).at_ (k:=8) Z))) (Gz (Zb ((d.f:Int)=4)) (dT Z7) (fw (Zb ((d.f:Int)=4)) (JL Z (dT Z7) Z) (Mz Z ?_)))))
 by_cases E:(d.f:Int)=4
 refine Gz (vP bC 0) (dT E) (Gl (W F (X L.a.a) aU) (dT E) b 9 W4 (gw (Zq (Zw ⟨ab F,ao F+1 *21,Zv⟩)) (dT E) (JU (ug) Z Z ((b.rds (i:=10) Z).addr (i:=1) Y) Y) (Gz (Zq (Zw ⟨ab F,ao F+1 *21+19,Zv⟩)) (dT E) (gw (W d.l.A (X d.l.a) d.l.c) (dT E) (JS Z (bT.one Tryz.isAgg45 (((b.rds (i:=10) Z).elem bU.len ai f6).at_ (k:=19) Z))) (gw (vJ (X (r7 aR.abs d.l.a))) (dT E) (JN (e:=(X d.l.a:Int)) yk (by rw [List.length_map])) (Gz (Zb (((X (r7 aR.abs d.l.a):Nat):Int)=1)) (dT E) (fw (Zb (((X (r7 aR.abs d.l.a):Nat):Int)=1)) (JL Z (dT E) Z) (Mz Z ?_))))))))
 by_cases u:((X (r7 aR.abs d.l.a):Nat):Int)=1
 refine Gz (vP bC 0) (dT u) (Gl (W F (X L.a.a) aU) (dT u) b 9 W4 (gw (Zq (Zw ⟨ab F,ao F+1 *21,Zv⟩)) (dT u) (JU (ug) Z Z ((b.rds (i:=10) Z).addr (i:=1) Y) Y) (Gz (Zq (Zw ⟨ab F,ao F+1 *21+19,Zv⟩)) (dT u) (gw (W d.l.A (X d.l.a) d.l.c) (dT u) (JS Z (bT.one Tryz.isAgg45 (((b.rds (i:=10) Z).elem bU.len ai f6).at_ (k:=19) Z))) ?_))))
 obtain⟨aN,cz⟩:=dJ (ls:=d.l.a) (i:=0) aR.len f6 (show bP _ 3 d.l.A (X d.l.a) (q0 aR.J d.l.a) from (dH b (i:=11) Z (bM (P8.2 ⟨d,E1 ai, .tail _ b3⟩) bQ))) f4
 have aI:=gq (Z:r7 aR.abs d.l.a=r7 aR.abs d.l.a) cz
 have ru:X aN.a.a<=aN.a.c/\X aN.a.a<=9223372036854775807:=dH b (i:=11) Z (φ:=λ _=>_) (bM (P8.2 ⟨d,E1 ai, .tail _ b5⟩) (bM (P8.2 ⟨aN,E1 cz,b3⟩) dP))
 refine gw (Zq (Zw ⟨ab d.l.A,ao d.l.A+0 *3,Zv⟩)) (dT u) (JU (qF) Z Z ((show bP _ 3 d.l.A (X d.l.a) (q0 aR.J d.l.a) from (dH b (i:=11) Z (bM (P8.2 ⟨d,E1 ai, .tail _ b3⟩) bQ))).addr (i:=0) Y) Y) (Gz (Zq (Zw ⟨ab d.l.A,ao d.l.A+0 *3+1,Zv⟩)) (dT u) (gw (Zz ⟨Zc aN.g⟩) (dT u) (JS Z (bT.one Tryz.isAgg9 (((show bP _ 3 d.l.A (X d.l.a) (q0 aR.J d.l.a) from (dH b (i:=11) Z (bM (P8.2 ⟨d,E1 ai, .tail _ b3⟩) bQ))).elem aR.len cz f6).at_ (k:=1) Z))) (gw (Zb (aN.g=([120]))) (dT u) (KU Z Z) (fw (Zb (aN.g=([120]))) (JL Z (dT u) Z) (Mz Z ?_)))))
 by_cases ah:aN.g=([120])
 refine Gz (vP gV 0) (dT ah) (Gl (W aL (X ak.a.a) dh) (dT ah) b 5 W4 (Gz (vJ (X ak.a.a)) (dT ah) (Gz (Zb ((X ak.a.a:Int)=1)) (dT ah) (fw (Zb ((X ak.a.a:Int)=1)) (JL Z (dT ah) Z) (Mz Z ?_)))))
 by_cases aa:(X ak.a.a:Int)=1
 refine Gz (vP gV 0) (dT aa) (Gl (W aL (X ak.a.a) dh) (dT aa) b 5 W4 ?_)
 obtain⟨Z2,bv⟩:=dJ (ls:=lQ) (i:=0) bU.len f6 (b.rds (i:=6) Z) f4
 have bH:=gq eX bv
 have ry:X Z2.a.a<=Z2.a.c/\X Z2.a.a<=9223372036854775807:=dH b (i:=7) Z (φ:=λ _=>_) (bM (P8.2 ⟨Z2,E1 bv,b3⟩) dP)
 have rz:X Z2.l.a=X (r7 aR.abs Z2.l.a):=bg (Z:r7 aR.abs Z2.l.a=r7 aR.abs Z2.l.a)
 have rA:X Z2.l.a<=Z2.l.c/\X Z2.l.a<=9223372036854775807:=dH b (i:=7) Z (φ:=λ _=>_) (bM (P8.2 ⟨Z2,E1 bv, .tail _ b3⟩) dP)
 have rC:X Z2.b.a<=Z2.b.c/\X Z2.b.a<=9223372036854775807:=dH b (i:=7) Z (φ:=λ _=>_) (bM (P8.2 ⟨Z2,E1 bv, .tail _ b4⟩) dP)
 refine gw (Zq (Zw ⟨ab aL,ao aL+0 *21,Zv⟩)) (dT aa) (JU (ug) Z Z ((b.rds (i:=6) Z).addr (i:=0) Y) Y) (Gz (Zq (Zw ⟨ab aL,ao aL+0 *21+4,Zv⟩)) (dT aa) (gw (vI Z2.y) (dT aa) (JS Z (bT.one B5 (((b.rds (i:=6) Z).elem bU.len bv f6).at_ (k:=4) Z))) (Gz (Zb (Z2.y=4)) (dT aa) (fw (Zb (Z2.y=4)) (JL Z (dT aa) Z) (Mz Z ?_)))))
 by_cases aF:Z2.y=4
 refine gw (vI bE) (dT aF) (JM Z) (Gz (Zb (bE=180)) (dT aF) (fw (Zb (bE=180)) (JL Z (dT aF) Z) (Mz Z ?_)))
 by_cases ax:bE=180
 refine Gz (vP iy 6) (dT ax) (Gl (W iq (X aC.a.a) iw) (dT ax) b 0 Tryz.isAgg34 (Gz (vJ (X aC.a.a)) (dT ax) (Gz (Zb ((X aC.a.a:Int)=1)) (dT ax) (fw (Zb ((X aC.a.a:Int)=1)) (JL Z (dT ax) Z) (Mz Z ?_)))))
 by_cases aG:(X aC.a.a:Int)=1
 refine Gz (vP iy 1) (dT aG) (Gl (vU aC.r) (dT aG) b 0 E3 (Gz (Zb ((aC.r:Int)=1)) (dT aG) (fw (Zb ((aC.r:Int)=1)) (JL Z (dT aG) Z) (An Z (rt (rs ?_))))))
 have mM:=b.pk []
 obtain rfl:_=Zy ((aC.r:Int)=1):=zj hr (N (ae Z8) (N (ip af) (N (ae K) (N (ae j) (N (ae l) (N (ae o) (N (ae x) (N (ae p) (N (ae r) (N (ae s) (N (ae z) (N (ip f) (N (ae (bu G)) (N (ip I) (N (ip t) (N (ip h) (N (ae (bu Z0)) (N (ip B) (N (ip R) (N (ip M) (N (ip S) (N (ip C) (N (ae (bu ay)) (N (ip Z7) (N (ae (bu aD)) (N (ip E) (N (ip u) (N (ae (bu aI)) (N (ip ah) (N (ip aa) (N (ae (bu bH)) (N (ip aF) (N (ip ax) (ip aG))))))))))))))))))))))))))))))))))
 exact⟨Z,mM⟩
 refine T (dF aG) (T (dF aG) (T (dF aG) (fw (V J) (JH Z (dF aG) Z) (An Z (rt (rs ?_))))))
 have mO:=b.pk []
 obtain rfl:_=J:=zj hr (N (ae Z8) (N (ip af) (N (ae K) (N (ae j) (N (ae l) (N (ae o) (N (ae x) (N (ae p) (N (ae r) (N (ae s) (N (ae z) (N (ip f) (N (ae (bu G)) (N (ip I) (N (ip t) (N (ip h) (N (ae (bu Z0)) (N (ip B) (N (ip R) (N (ip M) (N (ip S) (N (ip C) (N (ae (bu ay)) (N (ip Z7) (N (ae (bu aD)) (N (ip E) (N (ip u) (N (ae (bu aI)) (N (ip ah) (N (ip aa) (N (ae (bu bH)) (N (ip aF) (N (ip ax) (iN aG))))))))))))))))))))))))))))))))))
 exact⟨Z,mO⟩
 refine T (dF ax) (T (dF ax) (T (dF ax) (T (dF ax) (fw (V J) (JH Z (dF ax) Z) (Mz Z (T Z (T Z (T Z (fw (V J) (JH Z Z Z) (An Z (rt (rs ?_))))))))))))
 have mP:=b.pk []
 obtain rfl:_=J:=zj hr (N (ae Z8) (N (ip af) (N (ae K) (N (ae j) (N (ae l) (N (ae o) (N (ae x) (N (ae p) (N (ae r) (N (ae s) (N (ae z) (N (ip f) (N (ae (bu G)) (N (ip I) (N (ip t) (N (ip h) (N (ae (bu Z0)) (N (ip B) (N (ip R) (N (ip M) (N (ip S) (N (ip C) (N (ae (bu ay)) (N (ip Z7) (N (ae (bu aD)) (N (ip E) (N (ip u) (N (ae (bu aI)) (N (ip ah) (N (ip aa) (N (ae (bu bH)) (N (ip aF) (iN ax)))))))))))))))))))))))))))))))))
 exact⟨Z,mP⟩
 refine T (dF aF) (T (dF aF) (fw (V J) (JH Z (dF aF) Z) (Mz Z (T Z (T Z (T Z (T Z (fw (V J) (JH Z Z Z) (Mz Z (T Z (T Z (T Z (fw (V J) (JH Z Z Z) (An Z (rt (rs ?_))))))))))))))))
 have mQ:=b.pk []
 obtain rfl:_=J:=zj hr (N (ae Z8) (N (ip af) (N (ae K) (N (ae j) (N (ae l) (N (ae o) (N (ae x) (N (ae p) (N (ae r) (N (ae s) (N (ae z) (N (ip f) (N (ae (bu G)) (N (ip I) (N (ip t) (N (ip h) (N (ae (bu Z0)) (N (ip B) (N (ip R) (N (ip M) (N (ip S) (N (ip C) (N (ae (bu ay)) (N (ip Z7) (N (ae (bu aD)) (N (ip E) (N (ip u) (N (ae (bu aI)) (N (ip ah) (N (ip aa) (N (ae (bu bH)) (iN aF))))))))))))))))))))))))))))))))
 exact⟨Z,mQ⟩
 refine T (dF aa) (T (dF aa) (T (dF aa) (T (dF aa) (T (dF aa) (T (dF aa) (fw (V J) (JH Z (dF aa) Z) (Mz Z (T Z (T Z (fw (V J) (JH Z Z Z) (Mz Z (T Z (T Z (T Z (T Z (fw (V J) (JH Z Z Z) (Mz Z (T Z (T Z (T Z (fw (V J) (JH Z Z Z) (An Z (rt (rs ?_))))))))))))))))))))))))
 have mR:=b.pk []
 obtain rfl:_=J:=zj hr (N (ae Z8) (N (ip af) (N (ae K) (N (ae j) (N (ae l) (N (ae o) (N (ae x) (N (ae p) (N (ae r) (N (ae s) (N (ae z) (N (ip f) (N (ae (bu G)) (N (ip I) (N (ip t) (N (ip h) (N (ae (bu Z0)) (N (ip B) (N (ip R) (N (ip M) (N (ip S) (N (ip C) (N (ae (bu ay)) (N (ip Z7) (N (ae (bu aD)) (N (ip E) (N (ip u) (N (ae (bu aI)) (N (ip ah) (iN aa))))))))))))))))))))))))))))))
 exact⟨Z,mR⟩
 refine T (dF ah) (T (dF ah) (T (dF ah) (T (dF ah) (fw (V J) (JH Z (dF ah) Z) (Mz Z (T Z (T Z (T Z (T Z (T Z (T Z (fw (V J) (JH Z Z Z) (Mz Z (T Z (T Z (fw (V J) (JH Z Z Z) (Mz Z (T Z (T Z (T Z (T Z (fw (V J) (JH Z Z Z) (Mz Z (T Z (T Z (T Z (fw (V J) (JH Z Z Z) (An Z (rt (rs ?_))))))))))))))))))))))))))))))
 have mU:=b.pk []
 obtain rfl:_=J:=zj hr (N (ae Z8) (N (ip af) (N (ae K) (N (ae j) (N (ae l) (N (ae o) (N (ae x) (N (ae p) (N (ae r) (N (ae s) (N (ae z) (N (ip f) (N (ae (bu G)) (N (ip I) (N (ip t) (N (ip h) (N (ae (bu Z0)) (N (ip B) (N (ip R) (N (ip M) (N (ip S) (N (ip C) (N (ae (bu ay)) (N (ip Z7) (N (ae (bu aD)) (N (ip E) (N (ip u) (N (ae (bu aI)) (iN ah)))))))))))))))))))))))))))))
 exact⟨Z,mU⟩
 refine T (dF u) (T (dF u) (T (dF u) (T (dF u) (T (dF u) (T (dF u) (T (dF u) (T (dF u) (T (dF u) (fw (V J) (JH Z (dF u) Z) (Mz Z (T Z (T Z (T Z (T Z (fw (V J) (JH Z Z Z) (Mz Z (T Z (T Z (T Z (T Z (T Z (T Z (fw (V J) (JH Z Z Z) (Mz Z (T Z (T Z (fw (V J) (JH Z Z Z) (Mz Z (T Z (T Z (T Z (T Z (fw (V J) (JH Z Z Z) (Mz Z (T Z (T Z (T Z (fw (V J) (JH Z Z Z) (Az Z ?_)))))))))))))))))))))))))))))))))))))))
 refine nt (rt (rs ?_))
 have mV:=b.pk []
 obtain rfl:_=J:=zj hr (N (ae Z8) (N (ip af) (N (ae K) (N (ae j) (N (ae l) (N (ae o) (N (ae x) (N (ae p) (N (ae r) (N (ae s) (N (ae z) (N (ip f) (N (ae (bu G)) (N (ip I) (N (ip t) (N (ip h) (N (ae (bu Z0)) (N (ip B) (N (ip R) (N (ip M) (N (ip S) (N (ip C) (N (ae (bu ay)) (N (ip Z7) (N (ae (bu aD)) (N (ip E) (iN u)))))))))))))))))))))))))))
 exact⟨Z,mV⟩
 refine T (dF E) (T (dF E) (T (dF E) (T (dF E) (T (dF E) (T (dF E) (T (dF E) (fw (V J) (JH Z (dF E) Z) (Mz Z (T Z (T Z (T Z (T Z (T Z (T Z (T Z (T Z (T Z (fw (V J) (JH Z Z Z) (Mz Z (T Z (T Z (T Z (T Z (fw (V J) (JH Z Z Z) (Mz Z (T Z (T Z (T Z (T Z (T Z (T Z (fw (V J) (JH Z Z Z) (Mz Z (T Z (T Z (fw (V J) (JH Z Z Z) (Mz Z (T Z (T Z ?_)))))))))))))))))))))))))))))))))))))))
 refine T Z (T Z (fw (V J) (JH Z Z Z) (Mz Z (T Z (T Z (T Z (fw (V J) (JH Z Z Z) (An Z (rt (rs ?_))))))))))
 have mW:=b.pk []
 obtain rfl:_=J:=zj hr (N (ae Z8) (N (ip af) (N (ae K) (N (ae j) (N (ae l) (N (ae o) (N (ae x) (N (ae p) (N (ae r) (N (ae s) (N (ae z) (N (ip f) (N (ae (bu G)) (N (ip I) (N (ip t) (N (ip h) (N (ae (bu Z0)) (N (ip B) (N (ip R) (N (ip M) (N (ip S) (N (ip C) (N (ae (bu ay)) (N (ip Z7) (N (ae (bu aD)) (iN E))))))))))))))))))))))))))
 exact⟨Z,mW⟩
 refine T (dF Z7) (T (dF Z7) (T (dF Z7) (T (dF Z7) (T (dF Z7) (T (dF Z7) (fw (V J) (JH Z (dF Z7) Z) (Mz Z (T Z (T Z (T Z (T Z (T Z (T Z (T Z (fw (V J) (JH Z Z Z) (Mz Z (T Z (T Z (T Z (T Z (T Z (T Z (T Z (T Z (T Z (fw (V J) (JH Z Z Z) (Mz Z (T Z (T Z (T Z (T Z (fw (V J) (JH Z Z Z) (Mz Z (T Z (T Z (T Z (T Z (T Z (T Z ?_)))))))))))))))))))))))))))))))))))))))
 refine fw (V J) (JH Z Z Z) (Mz Z (T Z (T Z (fw (V J) (JH Z Z Z) (Mz Z (T Z (T Z (T Z (T Z (fw (V J) (JH Z Z Z) (Mz Z (T Z (T Z (T Z (fw (V J) (JH Z Z Z) (An Z (rt (rs ?_))))))))))))))))))
 have mX:=b.pk []
 obtain rfl:_=J:=zj hr (N (ae Z8) (N (ip af) (N (ae K) (N (ae j) (N (ae l) (N (ae o) (N (ae x) (N (ae p) (N (ae r) (N (ae s) (N (ae z) (N (ip f) (N (ae (bu G)) (N (ip I) (N (ip t) (N (ip h) (N (ae (bu Z0)) (N (ip B) (N (ip R) (N (ip M) (N (ip S) (N (ip C) (N (ae (bu ay)) (iN Z7))))))))))))))))))))))))
 exact⟨Z,mX⟩
 refine T (dF C) (T (dF C) (T (dF C) (T (dF C) (T (dF C) (T (dF C) (fw (V J) (JH Z (dF C) Z) (Mz Z (T Z (T Z (T Z (T Z (T Z (T Z (fw (V J) (JH Z Z Z) (Mz Z (T Z (T Z (T Z (T Z (T Z (T Z (T Z (fw (V J) (JH Z Z Z) (Mz Z (T Z (T Z (T Z (T Z (T Z (T Z (T Z (T Z (T Z (fw (V J) (JH Z Z Z) (Mz Z (T Z (T Z (T Z (T Z ?_)))))))))))))))))))))))))))))))))))))))
 refine fw (V J) (JH Z Z Z) (Mz Z (T Z (T Z (T Z (T Z (T Z (T Z (fw (V J) (JH Z Z Z) (Mz Z (T Z (T Z (fw (V J) (JH Z Z Z) (Mz Z (T Z (T Z (T Z (T Z (fw (V J) (JH Z Z Z) (Mz Z (T Z (T Z (T Z (fw (V J) (JH Z Z Z) (An Z (rt (rs ?_))))))))))))))))))))))))))
 have mY:=b.pk []
 obtain rfl:_=J:=zj hr (N (ae Z8) (N (ip af) (N (ae K) (N (ae j) (N (ae l) (N (ae o) (N (ae x) (N (ae p) (N (ae r) (N (ae s) (N (ae z) (N (ip f) (N (ae (bu G)) (N (ip I) (N (ip t) (N (ip h) (N (ae (bu Z0)) (N (ip B) (N (ip R) (N (ip M) (N (ip S) (iN C))))))))))))))))))))))
 exact⟨Z,mY⟩
 refine T (dF S) (T (dF S) (T (dF S) (T (dF S) (fw (V J) (JH Z (dF S) Z) (Mz Z (T Z (T Z (T Z (T Z (T Z (T Z (fw (V J) (JH Z Z Z) (Mz Z (T Z (T Z (T Z (T Z (T Z (T Z (fw (V J) (JH Z Z Z) (Mz Z (T Z (T Z (T Z (T Z (T Z (T Z (T Z (fw (V J) (JH Z Z Z) (Mz Z (T Z (T Z (T Z (T Z (T Z (T Z (T Z (T Z (T Z ?_)))))))))))))))))))))))))))))))))))))))
 refine fw (V J) (JH Z Z Z) (Mz Z (T Z (T Z (T Z (T Z (fw (V J) (JH Z Z Z) (Mz Z (T Z (T Z (T Z (T Z (T Z (T Z (fw (V J) (JH Z Z Z) (Mz Z (T Z (T Z (fw (V J) (JH Z Z Z) (Mz Z (T Z (T Z (T Z (T Z (fw (V J) (JH Z Z Z) (Mz Z (T Z (T Z (T Z (fw (V J) (JH Z Z Z) (An Z (rt (rs ?_))))))))))))))))))))))))))))))))
 have mZ:=b.pk []
 obtain rfl:_=J:=zj hr (N (ae Z8) (N (ip af) (N (ae K) (N (ae j) (N (ae l) (N (ae o) (N (ae x) (N (ae p) (N (ae r) (N (ae s) (N (ae z) (N (ip f) (N (ae (bu G)) (N (ip I) (N (ip t) (N (ip h) (N (ae (bu Z0)) (N (ip B) (N (ip R) (N (ip M) (iN S)))))))))))))))))))))
 exact⟨Z,mZ⟩
 refine T (dF M) (T (dF M) (T (dF M) (T (dF M) (fw (V J) (JH Z (dF M) Z) (Mz Z (T Z (T Z (T Z (T Z (fw (V J) (JH Z Z Z) (Mz Z (T Z (T Z (T Z (T Z (T Z (T Z (fw (V J) (JH Z Z Z) (Mz Z (T Z (T Z (T Z (T Z (T Z (T Z (fw (V J) (JH Z Z Z) (Mz Z (T Z (T Z (T Z (T Z (T Z (T Z (T Z (fw (V J) (JH Z Z Z) (Mz Z (T Z (T Z (T Z ?_)))))))))))))))))))))))))))))))))))))))
 refine T Z (T Z (T Z (T Z (T Z (T Z (fw (V J) (JH Z Z Z) (Mz Z (T Z (T Z (T Z (T Z (fw (V J) (JH Z Z Z) (Mz Z (T Z (T Z (T Z (T Z (T Z (T Z (fw (V J) (JH Z Z Z) (Mz Z (T Z (T Z (fw (V J) (JH Z Z Z) (Mz Z (T Z (T Z (T Z (T Z (fw (V J) (JH Z Z Z) (Mz Z (T Z (T Z (T Z (fw (V J) (JH Z Z Z) (An Z (rt ?_)))))))))))))))))))))))))))))))))))))
 refine rs ?_
 have ng:=b.pk []
 obtain rfl:_=J:=zj hr (N (ae Z8) (N (ip af) (N (ae K) (N (ae j) (N (ae l) (N (ae o) (N (ae x) (N (ae p) (N (ae r) (N (ae s) (N (ae z) (N (ip f) (N (ae (bu G)) (N (ip I) (N (ip t) (N (ip h) (N (ae (bu Z0)) (N (ip B) (N (ip R) (iN M))))))))))))))))))))
 exact⟨Z,ng⟩
 refine T (dF R) (T (dF R) (T (dF R) (fw (V J) (JH Z (dF R) Z) (Mz Z (T Z (T Z (T Z (T Z (fw (V J) (JH Z Z Z) (Mz Z (T Z (T Z (T Z (T Z (fw (V J) (JH Z Z Z) (Mz Z (T Z (T Z (T Z (T Z (T Z (T Z (fw (V J) (JH Z Z Z) (Mz Z (T Z (T Z (T Z (T Z (T Z (T Z (fw (V J) (JH Z Z Z) (Mz Z (T Z (T Z (T Z (T Z (T Z (T Z (T Z ?_)))))))))))))))))))))))))))))))))))))))
 refine fw (V J) (JH Z Z Z) (Mz Z (T Z (T Z (T Z (T Z (T Z (T Z (T Z (T Z (T Z (fw (V J) (JH Z Z Z) (Mz Z (T Z (T Z (T Z (T Z (fw (V J) (JH Z Z Z) (Mz Z (T Z (T Z (T Z (T Z (T Z (T Z (fw (V J) (JH Z Z Z) (Mz Z (T Z (T Z (fw (V J) (JH Z Z Z) (Mz Z (T Z (T Z (T Z (T Z (fw (V J) (JH Z Z Z) (Mz Z (T Z (T Z (T Z ?_)))))))))))))))))))))))))))))))))))))))
 refine fw (V J) (JH Z Z Z) (An Z (rt (rs ?_)))
 have ni:=b.pk []
 obtain rfl:_=J:=zj hr (N (ae Z8) (N (ip af) (N (ae K) (N (ae j) (N (ae l) (N (ae o) (N (ae x) (N (ae p) (N (ae r) (N (ae s) (N (ae z) (N (ip f) (N (ae (bu G)) (N (ip I) (N (ip t) (N (ip h) (N (ae (bu Z0)) (N (ip B) (iN R)))))))))))))))))))
 exact⟨Z,ni⟩
 refine T (dF B) (T (dF B) (T (dF B) (T (dF B) (fw (V J) (JH Z (dF B) Z) (Mz Z (T Z (T Z (T Z (fw (V J) (JH Z Z Z) (Mz Z (T Z (T Z (T Z (T Z (fw (V J) (JH Z Z Z) (Mz Z (T Z (T Z (T Z (T Z (fw (V J) (JH Z Z Z) (Mz Z (T Z (T Z (T Z (T Z (T Z (T Z (fw (V J) (JH Z Z Z) (Mz Z (T Z (T Z (T Z (T Z (T Z (T Z (fw (V J) (JH Z Z Z) (Mz Z (T Z ?_)))))))))))))))))))))))))))))))))))))))
 refine T Z (T Z (T Z (T Z (T Z (T Z (fw (V J) (JH Z Z Z) (Mz Z (T Z (T Z (T Z (T Z (T Z (T Z (T Z (T Z (T Z (fw (V J) (JH Z Z Z) (Mz Z (T Z (T Z (T Z (T Z (fw (V J) (JH Z Z Z) (Mz Z (T Z (T Z (T Z (T Z (T Z (T Z (fw (V J) (JH Z Z Z) (Mz Z (T Z (T Z (fw (V J) (JH Z Z Z) (Mz Z (T Z (T Z (T Z ?_)))))))))))))))))))))))))))))))))))))))
 refine T Z (fw (V J) (JH Z Z Z) (Mz Z (T Z (T Z (T Z (fw (V J) (JH Z Z Z) (An Z (rt (rs ?_)))))))))
 have nk:=b.pk []
 obtain rfl:_=J:=zj hr (N (ae Z8) (N (ip af) (N (ae K) (N (ae j) (N (ae l) (N (ae o) (N (ae x) (N (ae p) (N (ae r) (N (ae s) (N (ae z) (N (ip f) (N (ae (bu G)) (N (ip I) (N (ip t) (N (ip h) (N (ae (bu Z0)) (iN B))))))))))))))))))
 exact⟨Z,nk⟩
 refine T (dF h) (T (dF h) (T (dF h) (T (dF h) (T (dF h) (T (dF h) (fw (V J) (JH Z (dF h) Z) (Mz Z (T Z (T Z (T Z (T Z (fw (V J) (JH Z Z Z) (Mz Z (T Z (T Z (T Z (fw (V J) (JH Z Z Z) (Mz Z (T Z (T Z (T Z (T Z (fw (V J) (JH Z Z Z) (Mz Z (T Z (T Z (T Z (T Z (fw (V J) (JH Z Z Z) (Mz Z (T Z (T Z (T Z (T Z (T Z (T Z (fw (V J) (JH Z Z Z) (Mz Z (T Z ?_)))))))))))))))))))))))))))))))))))))))
 refine T Z (T Z (T Z (T Z (T Z (fw (V J) (JH Z Z Z) (Mz Z (T Z (T Z (T Z (T Z (T Z (T Z (T Z (fw (V J) (JH Z Z Z) (Mz Z (T Z (T Z (T Z (T Z (T Z (T Z (T Z (T Z (T Z (fw (V J) (JH Z Z Z) (Mz Z (T Z (T Z (T Z (T Z (fw (V J) (JH Z Z Z) (Mz Z (T Z (T Z (T Z (T Z (T Z (T Z (fw (V J) (JH Z Z Z) ?_)))))))))))))))))))))))))))))))))))))))
 refine Mz Z (T Z (T Z (fw (V J) (JH Z Z Z) (Mz Z (T Z (T Z (T Z (T Z (fw (V J) (JH Z Z Z) (Mz Z (T Z (T Z (T Z (fw (V J) (JH Z Z Z) (An Z (rt (rs ?_)))))))))))))))))
 have nu:=b.pk []
 obtain rfl:_=J:=zj hr (N (ae Z8) (N (ip af) (N (ae K) (N (ae j) (N (ae l) (N (ae o) (N (ae x) (N (ae p) (N (ae r) (N (ae s) (N (ae z) (N (ip f) (N (ae (bu G)) (N (ip I) (N (ip t) (iN h))))))))))))))))
 exact⟨Z,nu⟩
 refine T t (T t (T t (T t (fw (V J) (JH Z t Z) (Mz Z (T Z (T Z (T Z (T Z (T Z (T Z (fw (V J) (JH Z Z Z) (Mz Z (T Z (T Z (T Z (T Z (fw (V J) (JH Z Z Z) (Mz Z (T Z (T Z (T Z (fw (V J) (JH Z Z Z) (Mz Z (T Z (T Z (T Z (T Z (fw (V J) (JH Z Z Z) (Mz Z (T Z (T Z (T Z (T Z (fw (V J) (JH Z Z Z) (Mz Z (T Z (T Z (T Z ?_)))))))))))))))))))))))))))))))))))))))
 refine T Z (T Z (T Z (fw (V J) (JH Z Z Z) (Mz Z (T Z (T Z (T Z (T Z (T Z (T Z (fw (V J) (JH Z Z Z) (Mz Z (T Z (T Z (T Z (T Z (T Z (T Z (T Z (fw (V J) (JH Z Z Z) (Mz Z (T Z (T Z (T Z (T Z (T Z (T Z (T Z (T Z (T Z (fw (V J) (JH Z Z Z) (Mz Z (T Z (T Z (T Z (T Z (fw (V J) (JH Z Z Z) (Mz Z (T Z ?_)))))))))))))))))))))))))))))))))))))))
 refine T Z (T Z (T Z (T Z (T Z (fw (V J) (JH Z Z Z) (Mz Z (T Z (T Z (fw (V J) (JH Z Z Z) (Mz Z (T Z (T Z (T Z (T Z (fw (V J) (JH Z Z Z) (Mz Z (T Z (T Z (T Z (fw (V J) (JH Z Z Z) (An Z (rt (rs ?_)))))))))))))))))))))))
 have ny:=b.pk []
 obtain rfl:_=J:=zj hr (N (ae Z8) (N (ip af) (N (ae K) (N (ae j) (N (ae l) (N (ae o) (N (ae x) (N (ae p) (N (ae r) (N (ae s) (N (ae z) (N (ip f) (N (ae (bu G)) (N (ip I) (eP t)))))))))))))))
 exact⟨Z,ny⟩
 refine T (dF I) (T (dF I) (fw (V J) (JH Z (dF I) Z) (Mz Z (T Z (T Z (T Z (T Z (fw (V J) (JH Z Z Z) (Mz Z (T Z (T Z (T Z (T Z (T Z (T Z (fw (V J) (JH Z Z Z) (Mz Z (T Z (T Z (T Z (T Z (fw (V J) (JH Z Z Z) (Mz Z (T Z (T Z (T Z (fw (V J) (JH Z Z Z) (Mz Z (T Z (T Z (T Z (T Z (fw (V J) (JH Z Z Z) (Mz Z (T Z (T Z (T Z (T Z (fw (V J) (JH Z Z Z) ?_)))))))))))))))))))))))))))))))))))))))
 refine Mz Z (T Z (T Z (T Z (T Z (T Z (T Z (fw (V J) (JH Z Z Z) (Mz Z (T Z (T Z (T Z (T Z (T Z (T Z (fw (V J) (JH Z Z Z) (Mz Z (T Z (T Z (T Z (T Z (T Z (T Z (T Z (fw (V J) (JH Z Z Z) (Mz Z (T Z (T Z (T Z (T Z (T Z (T Z (T Z (T Z (T Z (fw (V J) (JH Z Z Z) (Mz Z (T Z (T Z (T Z ?_)))))))))))))))))))))))))))))))))))))))
 refine T Z (fw (V J) (JH Z Z Z) (Mz Z (T Z (T Z (T Z (T Z (T Z (T Z (fw (V J) (JH Z Z Z) (Mz Z (T Z (T Z (fw (V J) (JH Z Z Z) (Mz Z (T Z (T Z (T Z (T Z (fw (V J) (JH Z Z Z) (Mz Z (T Z (T Z (T Z (fw (V J) (JH Z Z Z) (An Z (rt (rs ?_)))))))))))))))))))))))))))
 have nz:=b.pk []
 obtain rfl:_=J:=zj hr (N (ae Z8) (N (ip af) (N (ae K) (N (ae j) (N (ae l) (N (ae o) (N (ae x) (N (ae p) (N (ae r) (N (ae s) (N (ae z) (N (ip f) (N (ae (bu G)) (iN I))))))))))))))
 exact⟨Z,nz⟩
 refine T (dF f) (T (dF f) (T (dF f) (T (dF f) (T (dF f) (T (dF f) (fw (V J) (JH Z (dF f) Z) (Mz Z (T Z (T Z (fw (V J) (JH Z Z Z) (Mz Z (T Z (T Z (T Z (T Z (fw (V J) (JH Z Z Z) (Mz Z (T Z (T Z (T Z (T Z (T Z (T Z (fw (V J) (JH Z Z Z) (Mz Z (T Z (T Z (T Z (T Z (fw (V J) (JH Z Z Z) (Mz Z (T Z (T Z (T Z (fw (V J) (JH Z Z Z) (Mz Z (T Z (T Z (T Z ?_)))))))))))))))))))))))))))))))))))))))
 refine T Z (fw (V J) (JH Z Z Z) (Mz Z (T Z (T Z (T Z (T Z (fw (V J) (JH Z Z Z) (Mz Z (T Z (T Z (T Z (T Z (T Z (T Z (fw (V J) (JH Z Z Z) (Mz Z (T Z (T Z (T Z (T Z (T Z (T Z (fw (V J) (JH Z Z Z) (Mz Z (T Z (T Z (T Z (T Z (T Z (T Z (T Z (fw (V J) (JH Z Z Z) (Mz Z (T Z (T Z (T Z (T Z (T Z (T Z ?_)))))))))))))))))))))))))))))))))))))))
 refine T Z (T Z (T Z (fw (V J) (JH Z Z Z) (Mz Z (T Z (T Z (T Z (T Z (fw (V J) (JH Z Z Z) (Mz Z (T Z (T Z (T Z (T Z (T Z (T Z (fw (V J) (JH Z Z Z) (Mz Z (T Z (T Z (fw (V J) (JH Z Z Z) (Mz Z (T Z (T Z (T Z (T Z (fw (V J) (JH Z Z Z) (Mz Z (T Z (T Z (T Z (fw (V J) (JH Z Z Z) (An Z (rt (rs ?_)))))))))))))))))))))))))))))))))))
 have nA:=b.pk []
 obtain rfl:_=J:=zj hr (N (ae Z8) (N (ip af) (N (ae K) (N (ae j) (N (ae l) (N (ae o) (N (ae x) (N (ae p) (N (ae r) (N (ae s) (N (ae z) (iN f))))))))))))
 exact⟨Z,nA⟩
 refine T (dT af) (T (dT af) (fw (V Zk) (JL Z (dT af) Z) (nt (jt (sr (Az Z (An Z (rt (tR (JY (kS Z Z Z) (Mz Z (Kz (Zq Zv) (Kz (vI 1) (Az Z (An Z (JG (JG ?_)))))))))))))))))
 have nC:=iB.pk []
 refine JI (Mz Z (Kz (V Zk) (Mz Z (T Z (T Z (fw (V Zk) (JL Z Z Z) (nt (jt (sr (An Z (rt (tR (rs ?_)))))))))))))
 have nD:=nC.pk []
 obtain rfl:_=J:=zj hr (N (ae Z8) (iN af))
 exact⟨Z,nD⟩
end
section
open Go.ChangeShapes
theorem Ja (o:aY):dA o=mo o:=by
  by_cases f:o.e=1\/o.e=3
  . rw [IE f]
    unfold mo
    simp only [bG]
    by_cases a:o.a= [] <;> by_cases b:o.b= [] <;> by_cases c:o.g= [] <;> by_cases d:o.j=0 <;>
      rcases f with f | f <;> rcases D9 (k:=o.f) with e | e <;> simp [a,b,c,d,f,e, <- ym]
  by_cases g:o.e=2
  . rw [GD g,Bp]
    unfold mo
    simp only [bG]
    by_cases a:o.a= [] <;> by_cases b:o.b= [] <;> by_cases d:o.j=0 <;>
      rcases D9 (k:=o.f) with e | e <;> simp [a,b,d,g,e, <- ym]
  by_cases h:o.e=4
  . rw [IG h,Ec]
    unfold mo
    simp only [bG]
    by_cases a:o.f= [] <;> by_cases b:o.g= [] <;>
      rcases Eb (r:=au.q o.a o.b) with e | e <;> simp [a,b,h,e, <- Gv]
  by_cases i:o.e=5
  . rw [Jk i,GA]
    unfold mo
    simp only [bG]
    by_cases a:o.f= [] <;> by_cases b:o.g= [] <;> by_cases d:o.j=0 <;>
      rcases Eb (r:=au.q o.a o.b) with e | e <;> simp [a,b,d,i,e, <- Gv]
  . rw [Jl Y]
    unfold mo
    rw [ZV Y,ZV Y,ZV Y,ZV Y,ZV Y]
theorem GK (l:List aY):fF l=vO l:=by
  unfold fF vO
  congr 1
  induction l with
  | nil=>rfl
  | cons x q ih=>simp only [iM,nk,Ja,ih]
theorem HV (x:aY) (l:List aY):fF (x::l)=if dA x=0 then fF l else dA x:=by
  unfold fF
  show lp (if dA x=0 then iM l else .inr (dA x)) _=_
  by_cases h:dA x=0
  . rw [ZK h,ZK h]
  . rw [ZV h,ZV h]; rfl
theorem JA {l:List aY}:fF l=0↔∀ o ∈ l,dA o=0:=by
  refine⟨vk,λ h=> ?_⟩
  induction l with
  | nil=>rfl
  | cons x q ih=>rw [HV,ZK (h x b3)]; exact ih λ o ho=>h o (.tail _ ho)
theorem sU {o:aY} (h:dA o=0):1<=o.e/\o.e<=5:=xI h
def run:List ay->List aY->List ay × List bZ
  | m, []=>(m, [])
  | m,o::l=>((run (l7 m o).1 l).1,(l7 m o).2::(run (l7 m o).1 l).2)
theorem DC:∀ (l:List aY) (m:List ay) (rs:List bZ),fT l m rs=((run m l).1,rs++(run m l).2)
  | [],m,rs=>by rw [fT]; show _=(m,rs++ []); rw [List.append_nil]
  | x::q,m,rs=>by
    have e:fT (x::q) m rs=fT q (l7 m x).1 (rs++ [(l7 m x).2]):=by
      rw [fT]
      unfold l7
      simp only [bG]
      split
      . rfl
      split
      . rfl
      split
      . rfl
      split <;> rfl
    rw [e,DC q,List.append_assoc]; rfl
theorem sV {m:List ay} {l:List aY} (hm:cB m=0) (hl:fF l=0):mP m l=((run m l).1,(run m l).2,0):=by
  unfold mP
  rw [bG,ZK hm,bG,ZK hl,bG,DC,List.nil_append]
theorem Fx {m:List ay} {l:List aY} (h: ¬ (cB m=0/\fF l=0)):mP m l=([], [],if cB m=0 then fF l else cB m)/\¬ (if cB m=0 then fF l else cB m)=0:=by
  unfold mP
  rw [bG]
  by_cases hm:cB m=0
  . have hl: ¬ fF l=0:=λ hl=>h ⟨hm,hl⟩
    rw [ZK hm,ZK hm,bG,ZV hl]
    exact⟨Z,hl⟩
  . rw [ZV hm,ZV hm]
    exact⟨Z,hm⟩
theorem qx {m:List ay} {o:aY} (hm:cB m=0) (ho:dA o=0):cB (l7 m o).1=0:=by
  have hk:=sU ho
  unfold l7
  by_cases c:o.e=1
  . rw [ZK c]; exact EP Z hm
  rw [ZV c]
  by_cases a:o.e=2
  . rw [ZK a]; exact EM Z hm ho a
  rw [ZV a]
  by_cases d:o.e=3
  . rw [ZK d]; exact EO Z hm
  rw [ZV d]
  by_cases b:o.e=4
  . rw [ZK b]; exact Dr Z hm ho b
  rw [ZV b]
  exact Dt Z hm ho Y
theorem wS:∀ {l:List aY} {m:List ay},cB m=0->(∀ o ∈ l,dA o=0)->cB (run m l).1=0
  | [],_,hm,_=>hm
  | x::q,_,hm,h=>wS (l:=q) (qx hm (h x b3)) λ o ho=>h o (.tail _ ho)
theorem AL:∀ (l:List aY) (m:List ay),(run m l).2.length=X l
  | [],_=>rfl
  | x::q,m=>ZJ (· +1) (AL q _)
theorem IX (l:List ay):∀ (q:List ay) (k:Nat),List.drop k l=q->j3 l q k= .inl ()
  | [],_,_=>rfl
  | x::q,k,h=>by
    have hx:l[k]? =Zw x:=by
      have e:(List.drop k l)[0]? =Zw x:=by rw [h]; rfl
      rwa [List.getElem?_drop,Nat.add_zero] at e
    rw [j3,bG,bu hx,ZK ⟨Z,Z⟩]
    exact IX l q (k+1) (by rw [<- List.drop_drop,h]; rfl)
theorem HY (l:List ay):qU l l=Zk:=by
  unfold qU
  rw [ZK Z,IX l l 0 Z]; rfl

theorem rH {α:Type} {p:α->Bool} {l:List α} (h:∀ x ∈ l,p x=Zk):l.filter p=l:=List.filter_eq_self.2 h
theorem og {α:Type} {p:α->Bool} {l:List α} (h:∀ x ∈ l, ¬ p x=Zk):l.filter p= []:=List.filter_eq_nil_iff.2 h
theorem C3.flt {m a e d:List ay} {k:Key} (h:C3 m k a e d):a=m.filter (λ p=>decide (p.f < k))/\e=m.filter (λ p=>decide (p.f=k))/\d=m.filter (λ p=>decide (k < p.f)):=by
  have he:∀ p ∈ e,p.f=k:=λ p hp=>by
    rcases h.mid with rfl | ⟨v,rfl⟩
    . cases hp
    . rw [List.mem_singleton.1 hp]
  rw [h.app]
  simp only [List.filter_append]
  refine⟨?_, ?_, ?_⟩
  . rw [rH (l:=a) λ p hp=>decide_eq_true (h.lo p hp),og (l:=e) λ p hp hq=>jH k (by rw [he p hp] at hq; exact of_decide_eq_true hq),
      og (l:=d) λ p hp hq=>jH k (wG (h.hi p hp) (of_decide_eq_true hq))]; simp
  . rw [og (l:=a) λ p hp hq=>jH k (by have:=h.lo p hp; rwa [of_decide_eq_true hq] at this),rH (l:=e) λ p hp=>decide_eq_true (he p hp),
      og (l:=d) λ p hp hq=>jH k (by have:=h.hi p hp; rwa [of_decide_eq_true hq] at this)]; simp
  . rw [og (l:=a) λ p hp hq=>jH k (wG (of_decide_eq_true hq) (h.lo p hp)),og (l:=e) λ p hp hq=>jH k (by rw [he p hp] at hq; exact of_decide_eq_true hq),
      rH (l:=d) λ p hp=>decide_eq_true (h.hi p hp)]; simp
theorem C3.uniq {m a e d a' e' d':List ay} {k:Key} (h:C3 m k a e d) (h':C3 m k a' e' d'):a=a'/\e=e'/\d=d':=
  ⟨h.flt.1.trans h'.flt.1.symm,h.flt.2.1.trans h'.flt.2.1.symm,h.flt.2.2.trans h'.flt.2.2.symm⟩
theorem wo {m a e d:List ay} {o:aY} (hs:oh m) (h:C3 m o.f a e d):(e= []/\qR m o=(m,zH))\/(∃ v,e= [ay.q o.f v]/\qR m o=(m,bZ.q Zk v (Ll.q []))):=by
  obtain⟨a',e',d',h',b,c⟩:=oq hs o.f
  obtain⟨rfl,rfl,rfl⟩:=h.uniq h'
  exact IK h b c
theorem ww {m a e d:List ay} {o:aY} (hs:oh m) (h:C3 m o.f a e d):tH m o=(a++ay.q o.f o.g::d,zH):=by
  obtain⟨a',e',d',h',b,c⟩:=oq hs o.f
  obtain⟨rfl,rfl,rfl⟩:=h.uniq h'
  exact II h b c
theorem wy {m a e d:List ay} {o:aY} (hs:oh m) (h:C3 m o.f a e d):tJ m o=(a++d,zH):=by
  obtain⟨a',e',d',h',b,c⟩:=oq hs o.f
  obtain⟨rfl,rfl,rfl⟩:=h.uniq h'
  exact IJ h b c
def uY (lo hi k:Key):Bool:=Zy (¬ k < lo/\(hi= []\/k < hi))
theorem Mid.flt {m a b c:List ay} {lo hi:Key} (h:Mid m lo hi a b c) (hr:M.R lo hi):b=m.filter (λ p=>uY lo hi p.f)/\a++c=m.filter (λ p=> !uY lo hi p.f):=by
  have ha:∀ p ∈ a,uY lo hi p.f=J:=λ p hp=>decide_eq_false λ q=>q.1 (h.lo p hp)
  have hb:∀ p ∈ b,uY lo hi p.f=Zk:=λ p hp=>decide_eq_true (h.mid p hp)
  have hc:∀ p ∈ c,uY lo hi p.f=J:=λ p hp=>decide_eq_false λ q=>q.2.elim (h.hi p hp).1 (h.hi p hp).2
  rw [h.app]
  simp only [List.filter_append]
  constructor
  . rw [og (l:=a) λ p hp=>by rw [ha p hp]; simp,rH (l:=b) hb,og (l:=c) λ p hp=>by rw [hc p hp]; simp]; simp
  . rw [rH (l:=a) λ p hp=>by rw [ha p hp]; rfl,og (l:=b) λ p hp=>by rw [hb p hp]; simp,rH (l:=c) λ p hp=>by rw [hc p hp]; rfl]; simp
theorem uw {m:List ay} {o:aY} (hs:oh m) (hr:M.R o.a o.b):rC m o=(m.filter (λ p=> !uY o.a o.b p.f),zH):=by
  obtain⟨a,b,c,h,e⟩:=yn (r:=au.q o.a o.b) hs hr
  rw [GG h e,(h.flt hr).2]
theorem wz {m:List ay} {o:aY} (hs:oh m) (hr:M.R o.a o.b) (hm:1<=o.j):rA m o=(m,bZ.q J [] (Ll.q (List.take o.j.toNat (m.filter (λ p=>uY o.a o.b p.f))))):=by
  obtain⟨a,b,c,h,e⟩:=yn (r:=au.q o.a o.b) hs hr
  rw [GH h e hm,(h.flt hr).1]
end
open List renaming filter_sublist->W5
section
open Go.ChangeShapes
theorem DD:∀ {m n:List ay},oh m->oh n->(∀ p,p ∈ m↔p ∈ n)->m=n
  | [], [],_,_,_=>rfl
  | [],y::q,_,_,h=>by have:=(h y).2 b3; cases this
  | x::q, [],_,_,h=>by have:=(h x).1 b3; cases this
  | x::q,y::r,hm,hn,h=>by
    have a:=uL.1 hm
    have b:=uL.1 hn
    have e:x=y:=by
      rcases u5.1 ((h x).1 b3) with e | e
      . exact e
      rcases u5.1 ((h y).2 b3) with c | c
      . exact c.symm
      exact absurd (wG (a.1 y c) (b.1 x e)) (jH _)
    subst e
    congr 1
    refine DD a.2 b.2 λ p=>⟨λ hp=> ?_,λ hp=> ?_⟩
    . rcases u5.1 ((h p).1 (.tail _ hp)) with e | e
      . subst e; exact absurd (a.1 _ hp) (jH _)
      . exact e
    . rcases u5.1 ((h p).2 (.tail _ hp)) with e | e
      . subst e; exact absurd (b.1 _ hp) (jH _)
      . exact e
def tT (o:aY) (k:Key):Prop:=if o.e<=3 then k=o.f else uY o.a o.b k=Zk
theorem C3.mem {m a e d:List ay} {k:Key} (h:C3 m k a e d) (p:ay):p ∈ m↔(p ∈ a\/p ∈ e\/p ∈ d):=by rw [h.app]; simp
theorem C3.key {m a e d:List ay} {k:Key} (h:C3 m k a e d) {p:ay} (hk:p.f=k):p ∈ m↔p ∈ e:=by
  rw [h.mem]
  constructor
  . rintro (hp | hp | hp)
    . exact absurd (by have:=h.lo p hp; rwa [hk] at this) (jH k)
    . exact hp
    . exact absurd (by have:=h.hi p hp; rwa [hk] at this) (jH k)
  . exact λ hp=> .inr (.inl hp)
theorem C3.off {m a e d:List ay} {k:Key} (h:C3 m k a e d) {p:ay} (hk:p.f≠k):p ∈ m↔(p ∈ a\/p ∈ d):=by
  rw [h.mem]
  constructor
  . rintro (hp | hp | hp)
    . exact .inl hp
    . rcases h.mid with rfl | ⟨v,rfl⟩
      . cases hp
      . rw [m3.1 hp] at hk; exact absurd rfl hk
    . exact .inr hp
  . rintro (hp | hp)
    . exact .inl hp
    . exact .inr (.inr hp)
theorem AO {m:List ay} {o:aY} (hm:cB m=0) (ho:dA o=0) {p:ay} (hp: ¬ tT o p.f):p ∈ (l7 m o).1↔p ∈ m:=by
  have hk:=sU ho
  have hs:=(l6.1 hm).2
  unfold tT at hp
  unfold l7
  by_cases c:o.e<=3
  . rw [ZK c] at hp
    obtain⟨a,e,d,h,_⟩:=oq hs o.f
    by_cases f:o.e=1
    . rw [ZK f]
      rcases wo hs h with ⟨_,e⟩ | ⟨v,_,e⟩ <;> rw [e]
    rw [ZV f]
    by_cases g:o.e=2
    . rw [ZK g,ww hs h,h.off hp]
      simp only [T1,u5]
      constructor
      . rintro (q | q | q)
        . exact .inl q
        . rw [q] at hp; exact absurd Z hp
        . exact .inr q
      . rintro (q | q)
        . exact .inl q
        . exact .inr (.inr q)
    rw [ZV g,ZK Y,wy hs h,h.off hp,T1]
  . rw [ZV c] at hp
    rw [ZV Y,ZV Y,ZV Y]
    have hr:=mO ho Y
    by_cases b:o.e=4
    . rw [ZK b,wz hs hr (sS ho b).1]
    . rw [ZV b,uw hs hr,T2]
      have:uY o.a o.b p.f=J:=by cases e:uY o.a o.b p.f; rfl; exact absurd e hp
      rw [this]; simp
theorem IY {m n:List ay} {o:aY} (hm:cB m=0) (hn:cB n=0) (ho:dA o=0) (h:∀ p:ay,tT o p.f->(p ∈ m↔p ∈ n)):
    (l7 m o).2=(l7 n o).2/\∀ p:ay,tT o p.f->(p ∈ (l7 m o).1↔p ∈ (l7 n o).1):=by
  have hk:=sU ho
  have hs:=(l6.1 hm).2
  have b:=(l6.1 hn).2
  unfold tT at h ⊢
  unfold l7
  by_cases l:o.e<=3
  . simp only [ZK l] at h ⊢
    obtain⟨a,e,d,c,_⟩:=oq hs o.f
    obtain⟨a',e',d',c',_⟩:=oq b o.f
    by_cases j:o.e=1
    . rw [ZK j,ZK j]
      rcases wo hs c with ⟨he,g⟩ | ⟨v,he,g⟩ <;> rcases wo b c' with ⟨f,r⟩ | ⟨w,f,r⟩ <;> rw [g,r]
      . exact⟨Z,h⟩
      . have:=(h (ay.q o.f w) Z).2 ((c'.key Z).2 (by rw [f]; simp))
        rw [c.key Z,he] at this; cases this
      . have:=(h (ay.q o.f v) Z).1 ((c.key Z).2 (by rw [he]; simp))
        rw [c'.key Z,f] at this; cases this
      . have:=(h (ay.q o.f v) Z).1 ((c.key Z).2 (by rw [he]; simp))
        rw [c'.key Z,f] at this
        have:=m3.1 this
        cases this
        exact⟨Z,h⟩
    rw [ZV j,ZV j]
    by_cases k:o.e=2
    . rw [ZK k,ZK k,ww hs c,ww b c']
      refine⟨Z,λ p hp=> ?_⟩
      simp only [T1,u5]
      constructor
      . rintro (q | q | q)
        . exact absurd (by have:=c.lo p q; rwa [hp] at this) (jH _)
        . exact .inr (.inl q)
        . exact absurd (by have:=c.hi p q; rwa [hp] at this) (jH _)
      . rintro (q | q | q)
        . exact absurd (by have:=c'.lo p q; rwa [hp] at this) (jH _)
        . exact .inr (.inl q)
        . exact absurd (by have:=c'.hi p q; rwa [hp] at this) (jH _)
    rw [ZV k,ZV k,ZK Y,ZK Y,wy hs c,wy b c']
    refine⟨Z,λ p hp=> ?_⟩
    simp only [T1]
    constructor
    . rintro (q | q)
      . exact absurd (by have:=c.lo p q; rwa [hp] at this) (jH _)
      . exact absurd (by have:=c.hi p q; rwa [hp] at this) (jH _)
    . rintro (q | q)
      . exact absurd (by have:=c'.lo p q; rwa [hp] at this) (jH _)
      . exact absurd (by have:=c'.hi p q; rwa [hp] at this) (jH _)
  . simp only [ZV l] at h ⊢
    have s: ¬ o.e=1:=Y
    have t: ¬ o.e=2:=Y
    have u: ¬ o.e=3:=Y
    rw [ZV s,ZV s,ZV t,ZV t,ZV u,ZV u]
    have hr:=mO ho Y
    by_cases i:o.e=4
    . rw [ZK i,ZK i,wz hs hr (sS ho i).1,wz b hr (sS ho i).1]
      refine⟨?_,h⟩
      have e:m.filter (λ p=>uY o.a o.b p.f)=n.filter (λ p=>uY o.a o.b p.f):=
        DD (vV W5 hs) (vV W5 b) λ p=>by
          rw [T2,T2]
          exact⟨λ q=>⟨(h p q.2).1 q.1,q.2⟩,λ q=>⟨(h p q.2).2 q.1,q.2⟩⟩
      simp only [e]
    . rw [ZV i,ZV i,uw hs hr,uw b hr]
      refine⟨Z,λ p hp=> ?_⟩
      rw [T2,T2,hp]; simp
theorem AP:∀ (l r:List aY) (m:List ay),run m (l++r)=((run (run m l).1 r).1,(run m l).2++(run (run m l).1 r).2)
  | [],r,m=>rfl
  | o::l,r,m=>by
    show ((run (l7 m o).1 (l++r)).1,(l7 m o).2::(run (l7 m o).1 (l++r)).2)=_
    rw [AP l r]; rfl
end
end Go.Proofs.YtndamapfnpihpaaGreat
