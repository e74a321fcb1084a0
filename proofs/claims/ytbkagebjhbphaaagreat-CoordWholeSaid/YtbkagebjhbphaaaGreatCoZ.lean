/-
  Of a state that may be: sizes; the coordinator that is made of it. Conditions: none beyond each law's own.
-/
import Derived.Test.YtbkagebjhbphaaaGreatCoE
import Derived.Test.YtbkagebjhbphaaaGreatLv
import Derived.Test.YtbkagebjhbphaaaGreatCoN
namespace Go.Proofs.YtbkagebjhbphaaaGreat
set_option linter.unusedVariables false
set_option linter.unusedSimpArgs false
set_option linter.unusedSectionVars false
theorem Cf {l:List aM} {p:Int} {r:aL} {i:Nat} {x:aM} (hx:l[i]? =some x) (hs:x.bE=p) (hc:nz (kX l ((i:Nat):Int)) r=true):∀ (q:List aM) (k:Nat),List.drop k l=q→k≤i→kw l p r q k= .inr true
  | [],k,hd,hk=>by
    have:=drop_nil hd
    have:=(List.getElem?_eq_some_iff.1 hx).1
    omega
  | y::q,k,hd,hk=>by
    obtain⟨hy,a⟩:=rW hd
    rw [kw]
    simp only [dw]
    by_cases e:k=i
    · subst e
      rw [hx] at hy; cases hy
      rw [if_pos hs,if_pos hc]
    · have ih:=Cf hx hs hc q (k+1) a e6
      by_cases c:y.bE=p
      · rw [if_pos c]
        by_cases b:nz (kX l ((k:Nat):Int)) r=true
        · rw [if_pos b]
        · rw [if_neg b]; exact ih
      · rw [if_neg c]; exact ih
theorem Cg {l:List aM} (H:oZ l) {p:Int} {r:aL} {i:Nat} {x:aM} (hx:l[i]? =some x) (hs:x.bE=p) (hc:M.C x.aJ (ui l i) r.aJ r.aR):lv l p r=true:=by
  have hR:=((M.C_iff _ _ _ _).1 hc).2.1
  have hv:nz (kX l ((i:Nat):Int)) r=true:=by rw [← Ba,xC hx]; exact GQ.2 hc
  unfold lv
  simp only [dw]
  rw [← DI,if_pos (ww.2 H),if_pos (tX.2 hR),Cf hx hs hv l 0 rfl (Lp _)]; rfl
theorem uZ {l:List aM} (H:oZ l) {p:Int} {o z:aN}:∀ (q:List aM) (acc:List aN) (k:Nat),List.drop k l=q→z ∈ dW l p o q acc k→z ∈ acc∨∃ i x,l[i]? =some x∧x.bE=p∧M.M o.aJ o.aR x.aJ (ui l i)∧z=aN.mk o.av [] [] (M.mx o.aJ x.aJ) (M.ls o.aR (ui l i)) o.aV
  | [],acc,k,_,h=> .inl h
  | x::q,acc,k,hd,h=>by
    obtain⟨hx,a⟩:=rW hd
    rw [dW] at h
    simp only [dw] at h
    by_cases c:x.bE=p
    · rw [if_pos c,xC hx] at h
      by_cases m:M.M o.aJ o.aR x.aJ (ui l k)
      · rw [EU (r:=aL.mk o.aJ o.aR) (s:=aL.mk x.aJ (ui l k)) m,if_pos rfl] at h
        rcases uZ H q _ (k+1) a h with b | b
        · rcases List.mem_append.1 b with d | d
          · exact .inl d
          · exact .inr ⟨k,x,hx,c,m,List.mem_singleton.1 d⟩
        · exact .inr b
      · rw [EW (r:=aL.mk o.aJ o.aR) (s:=aL.mk x.aJ (ui l k)) m,if_neg f2] at h
        exact uZ H q _ (k+1) a h
    · rw [if_neg c] at h
      exact uZ H q _ (k+1) a h
theorem Gx (a b:List UInt8):b≤M.mx a b:=((M.le_mx _ a b).1 (List.le_refl _)).2
theorem GZ (a b:List UInt8):b= []∨(M.ls a b≠ []∧M.ls a b≤b):=by
  unfold M.ls
  by_cases h:b= []
  · exact .inl h
  · refine .inr ?_
    by_cases c:a= []
    · rw [if_pos c]; exact⟨h,List.le_refl _⟩
    · rw [if_neg c,if_neg h]
      by_cases d:b < a
      · rw [if_pos d]; exact⟨h,List.le_refl _⟩
      · rw [if_neg d]; exact⟨c,List.not_lt.1 d⟩
theorem Ew {a b c d:List UInt8} (m:M.M a b c d):M.C c d (M.mx a c) (M.ls b d):=
  (M.C_iff _ _ _ _).2 ⟨m.2.1,M.R_meet m,Gx a c,GZ b d⟩
theorem G5 {k b:List UInt8} (hk:rV k) (hb:rV b) (h:k < b):ph k≠ []∧ph k≤b:=by
  unfold ph
  by_cases c:k.length < 12
  · rw [if_pos c]
    refine⟨by simp,List.not_lt.1 fun q=> ?_⟩
    rw [M.lt_snoc0] at q
    exact sN.2 q h
  · rw [if_neg c]
    have no: ¬ (M.nx k= []∨b < M.nx k):=fun q=>by
      have:=M.nx_only k b (by have:=hb.2; have:=hk.2; omega) (List.le_of_lt h) q
      subst this
      exact GL _ h
    exact⟨fun q=>no (.inl q),List.not_lt.1 fun q=>no (.inr q)⟩
theorem Ex {o:aN} (ho:eu o=0) (hk:rV o.aZ):(kD o).1=aL.mk o.aZ (ph o.aZ):=by
  unfold kD
  rw [dw, ← CL,if_pos ho,if_pos (tV.2 hk.1),dw,GR hk]
theorem CO {o:aN} (ho:eu o=0) (hk:o.aZ= []):(kD o).1=aL.mk o.aJ o.aR:=by
  unfold kD
  rw [dw, ← CL,if_pos ho,if_neg (fun q=>q hk)]
theorem Ey {o:aN} (ho:eu o=0) (c:o.av=4∨o.av=5) {a b:List UInt8} (hR:M.R a b):eu (aN.mk o.av [] [] a b o.aV)=0:=by
  have hs:iB (aL.mk a b)=0:=yP.2 hR
  rcases c with h | h
  · rw [EZ h] at ho
    rw [EZ (o:=aN.mk o.av [] [] a b o.aV) h,if_pos ⟨rfl,rfl⟩,CK,if_pos hs]
    split at ho
    · rw [CK] at ho
      split at ho
      · exact ho
      · rename_i q; exact absurd ho q
    · cases ho
  · rw [E5 h] at ho
    split at ho
    · rename_i q
      rw [E5 (o:=aN.mk o.av [] [] a b o.aV) h,if_pos ⟨rfl,rfl,q.2.2⟩,EX]; exact hs
    · cases ho
theorem Bq {l:List aM} (H:oZ l) {p:Int} {o z:aN} (ho:eu o=0) (hz:z ∈ je l p o):lv l p (kD z).1=true:=by
  have a:o.av=4∨o.av=5→z ∈ dW l p o l [] 0→lv l p (kD z).1=true:=fun b h=>by
    rcases uZ H l [] 0 rfl h with k | ⟨i,x,hx,hs,m,rfl⟩
    · cases k
    · rw [CO (Ey ho b (M.R_meet m)) rfl]
      exact Cg H hx hs (Ew m)
  unfold je at hz
  by_cases d:o.av=4
  · rw [if_pos d,dw] at hz; exact a (.inl d) hz
  rw [if_neg d] at hz
  by_cases f:o.av=5
  · rw [if_pos f,dw,zI] at hz; exact a (.inr f) hz
  rw [if_neg f] at hz
  have hk:1≤o.av∧o.av≤5:=by
    by_cases c:1≤o.av∧o.av≤5
    · exact c
    · rw [Gt c] at ho; cases ho
  have kk:=DL ho e6
  obtain⟨j,hp⟩:=H.pos o.aZ
  obtain⟨y,hy⟩:∃ y,l[j]? =some y:=⟨_,List.getElem?_eq_getElem hp.lt⟩
  rw [xB hp] at hz
  simp only [dw,Int.toNat_natCast,aT hy] at hz
  by_cases c:y.bE=p
  · rw [if_pos c] at hz
    obtain rfl:=List.mem_singleton.1 hz
    rw [Ex ho kk]
    refine Cg H hy c ((M.C_iff _ _ _ _).2 ⟨H.R hy,H7 kk,(hp.iff j y hy).2 (Nat.le_refl _), ?_⟩)
    unfold ui
    cases e:l[j+1]? with
    | none=>exact .inl rfl
    | some g=>exact .inr (G5 kk (H.key j g e) (CF.1 fun q=>absurd ((hp.iff (j+1) g e).1 q) e6))
  · rw [if_neg c] at hz; cases hz
theorem yQ {l:List aM} {ops:List aN} (H:oZ l) (ho:∀ o ∈ ops,eu o=0):∀ (n k:Nat) (a:List fu),(∀ y ∈ a, ∀ z ∈ y.aB.ls,lv l y.bE (kD z).1=true)→∀ y ∈ gp l ops n a k, ∀ z ∈ y.aB.ls,lv l y.bE (kD z).1=true
  | 0,k,a,h=>h
  | n+1,k,a,h=>by
    have d:=zJ l a k ops 0 [] []
    rw [gp]
    simp only [dw]
    rw [d]
    simp only [List.nil_append]
    by_cases c:((List.length (List.flatMap (je l ((k:Nat):Int)) ops):Nat):Int) > 0
    · rw [if_pos c]
      refine yQ H ho n (k+1) _ fun y hy=> ?_
      rcases List.mem_append.1 hy with b | b
      · exact h y b
      · rw [List.mem_singleton.1 b]
        intro z hz
        obtain⟨o,e,f⟩:=List.mem_flatMap.1 hz
        exact Bq H (ho o e) f
    · rw [if_neg c]
      exact yQ H ho n (k+1) _ h
theorem DV {l:List aM} {ops:List aN} {ps:List fu} (H:oZ l) (ho:kC ops=0) (h:ko l ops=(ps,0)):∀ y ∈ ps, ∀ z ∈ y.aB.ls,lv l y.bE (kD z).1=true:=by
  unfold ko at h
  simp only [dw] at h
  rw [if_pos (ww.2 H),if_pos ho] at h
  obtain⟨rfl,_⟩:=Prod.mk.inj h
  exact yQ H (Ce ho) 5 0 [] fun y hy=>by cases hy
def qg (n low e:Nat) (y:fu):bW:=bW.mk 3 0 y.bE 0 0 0 0 0 n low 0 e 0 0 0 false (aL.mk [] []) (Ll.mk y.aB.ls) (Ll.mk []) (Ll.mk [])
theorem Fy (c:Int) (x:bW) (m:aD) (n:Nat) (ps:List fu):∃ low, ∀ (l:List fu) (k:Nat) (o:List bW),gD c x m n ps l k o=o++List.map (qg n low m.aa.aF) l:=by
  refine⟨gQ (AR m (ed.mk n c x.aU m.aa.aF (Ll.mk x.aB.ls) (Ll.mk ps) (Ll.mk (List.replicate (List.length ps) false)) (Ll.mk (List.replicate (List.length ps) (Ll.mk []:Ll aQ))) 0)),fun l=> ?_⟩
  induction l with
  | nil=>intro k o; exact(List.append_nil o).symm
  | cons y l ih=>
    intro k o
    have hf: ¬ (List.getD (List.replicate (List.length ps) false) k default=true):=by
      rw [List.getD_eq_getElem?_getD,List.getElem?_replicate]
      split <;> simp
    simp only [gD,bnd]
    rw [if_neg hf]
    refine(ih (k+1) _).trans ?_
    simp only [dM,iT,bnd]
    rw [List.append_assoc]; rfl
theorem Ch (p:bU) (c:Int) (n:Nat) (m:aD):∃ z,(dL p c n 2 [] m).1.bF.ls=p.bF.ls++ [z]∧z.av=2∧z.dK=2:=by
  simp only [dL,bnd]
  split
  · exact⟨_,rfl,rfl,rfl⟩
  split
  · exact⟨_,rfl,rfl,rfl⟩
  split
  · exact⟨_,rfl,rfl,rfl⟩
  · exact⟨_,rfl,rfl,rfl⟩
theorem Ez {m:aD} (ha:m.aC.ls= []) (hd: ¬ 0 < List.length m.aa.ak.ls):gQ m=gu m:=by
  have a:m.aa.ak.ls= []:=List.length_eq_zero_iff.1 e6
  rw [zf,BS]
  unfold nA nD
  rw [ha,a]; rfl
theorem DW {c:Int} {x:bW} {m:aD} {ps:List fu} (ha:m.aC.ls= []) (hc:ko m.aa.ag.ls x.aB.ls=(ps,0)):(∃ n low,(dS (bU.mk (Ll.mk [])) c x m).1.bF.ls=List.map (qg n low m.aa.aF) ps)∨∃ z,(dS (bU.mk (Ll.mk [])) c x m).1.bF.ls= [z]∧z.av=2∧z.dK=2∧0 < List.length m.aa.ak.ls:=by
  unfold dS
  simp only [bnd]
  have e: ¬ (((List.length ([]:List ed):Nat):Int) ≥ 6):=by decide
  rw [hc,ha,if_neg e]
  split
  · rename_i h
    obtain⟨z,a,b,d⟩:=Ch (bU.mk (Ll.mk [])) c x.aU (aD.mk m.aa (Int.toNat (IntKind.u64.wrap (((m.bT:Nat):Int)+1))) (Ll.mk []) m.bM m.bD m.bA m.bC m.bB m.dO m.dG m.dH m.dD m.dE)
    exact .inr ⟨z,a,b,d,by simp only [List.length_nil] at h; omega⟩
  split
  · rename_i h
    obtain⟨z,a,b,d⟩:=Ch (bU.mk (Ll.mk [])) c x.aU (aD.mk m.aa (Int.toNat (IntKind.u64.wrap (((m.bT:Nat):Int)+1))) (Ll.mk []) m.bM m.bD m.bA m.bC m.bB m.dO m.dG m.dH m.dD m.dE)
    refine .inr ⟨z,a,b,d, ?_⟩
    by_cases hd:0 < List.length m.aa.ak.ls
    · exact hd
    · rw [Ez ha hd,Int.sub_self,IntWalk.u64_in _ e6] at h
      omega
  rw [if_pos rfl]
  obtain⟨low,hl⟩:=Fy c x m (gu m) ps
  exact .inl ⟨_,low,(hl ps 0 []).trans (List.nil_append _)⟩
theorem Br {x:bW} {m:aD} (ha:m.aC.ls= []) (a:m.bA.dB=false) (hf:x.aI=12) (hb:x.ax=m.aa.ax):iU (bU.mk (Ll.mk [])) x m=dS (bU.mk (Ll.mk [])) 2 x m:=by
  unfold iU
  simp only [bnd]
  rw [hf,hb,ha,a,if_pos rfl,if_neg f2,if_neg f2,if_pos f2,if_neg f2]; rfl
theorem EA {x:bW} {m:aD} (hk:x.av=1) (ht:x.eO=0) (hf:x.aI=12):(kR x=0∧(dY m x).2.1=0∧(dY m x).1.cz.ls=(iU (bU.mk (Ll.mk [])) x m).1.bF.ls)∨(dY m x).2.1=180:=by
  unfold dY
  simp only [bnd]
  rw [hf,if_neg f2]
  by_cases h:kR x=0
  · rw [if_pos h,if_pos ht]
    refine .inl ⟨h,rfl, ?_⟩
    unfold kL
    rw [if_pos hk]; rfl
  · rw [if_neg h]; exact .inr rfl
theorem Fz {x:bW} (h:kR x=0) (hk:x.av=1):kC x.aB.ls=0:=by
  unfold kR p9 at h
  simp only [bnd] at h
  rw [hk,show oJ 1=(fT.mk 2 0 (Ll.mk ([0,1,7])),true) from rfl] at h
  split at h
  case isFalse=>cases h
  split at h
  case isFalse=>cases h
  split at h
  case isFalse=>cases h
  split at h
  case isFalse=>cases h
  split at h
  case isFalse=>cases h
  rename_i hm
  have:=AX hm 7 f2
  simp only [oD,p8,bnd,Int.reduceEq, ↓reduceIte] at this
  rw [if_pos hk] at this
  exact of_decide_eq_true this
end Go.Proofs.YtbkagebjhbphaaaGreat
namespace Go.Proofs.YtbkagebjhbphaaaGreat
theorem DX:uY=true:=by decide+kernel
end Go.Proofs.YtbkagebjhbphaaaGreat
namespace Go.Proofs.YtbkagebjhbphaaaGreat
set_option linter.unusedVariables false
set_option linter.unusedSimpArgs false
theorem Gy {m:aD} {y:bZ} {k:Nat} (M:Mk m) (h:List.length m.aa.ag.ls≤1000∧m.aa.au≤4∧List.length m.aC.ls+List.length m.aa.ak.ls≤8∧List.length m.aa.aK.ls≤k) (a:lL m=y):(List.length y.ag.ls≤1000∧List.length y.ak.ls≤8∧List.length y.aK.ls≤k)∧(∀ x ∈ y.ak.ls,List.length x.au.ls≤1000000)∧∀ x ∈ y.aK.ls,List.length x.ah.ls≤1000000∧∀ z ∈ x.ah.ls,List.length z.aj.ls≤1000000:=by
  subst a
  exact⟨⟨h.1,(show List.length m.aa.ak.ls≤8 by omega),h.2.2.2⟩,ym M,yn M⟩
end Go.Proofs.YtbkagebjhbphaaaGreat
namespace Go.Proofs.YtbkagebjhbphaaaGreat
open List renaming length→s0
open Nat renaming le_trans→L8
set_option linter.unusedVariables false
set_option linter.unusedSimpArgs false
theorem DY {p:bZ} (h:gq p=0):jc p.ag.ls=0∧p.au≤4:=by
  unfold gq at h
  rw [dw] at h
  split at h
  · rename_i b
    split at h
    · rw [dw] at h
      split at h
      · rename_i a
        unfold mR at a
        rw [dw] at a
        split at a
        · exact⟨f5,(Cu b).2⟩
        · cases a
      · rw [dw] at h; cases h
    · rw [dw] at h; cases h
  · rw [dw] at h; cases h
theorem DZ {p:bZ} {r:Int} (C:zb p) (h:gq p=r) (a:r=0):(s0 p.ag.ls≤6∧p.au≤4∧s0 p.ak.ls≤8∧s0 p.aK.ls≤4)∧(∀ x ∈ p.ak.ls,s0 x.au.ls≤1000000)∧∀ x ∈ p.aK.ls,s0 x.ah.ls≤1000000∧∀ z ∈ x.ah.ls,s0 z.aj.ls≤1000000:=by
  have h':=h.trans a
  have S:=AB h' C
  exact⟨⟨S.1,(DY h').2,S.2.2.1,S.2.2.2.2.1⟩,fun x hx=>L8 (S.2.2.2.1 x hx).2.2.2 f2,fun x hx=>⟨L8 (S.2.2.2.2.2.1 x hx).2.2.1 f2,fun z hz=>L8 ((S.2.2.2.2.2.1 x hx).2.2.2 z hz).2.1 f2⟩⟩
theorem G6 {p y:bZ} {m:aD} {r:Int} (C:zb p) (h:gq p=r) (a:r=0) (b:iq p=y) (e:rz y=m):Mk m:=by
  subst b; subst e
  have z:mV []∧jR 0:=⟨l9,Lp _⟩
  have S:=AB (h.trans a) C
  exact⟨(by dsimp only [rz]; exact lV _),(by dsimp only [rz]; exact pq _ _),C.2.2.1,Lp _,fun x hx=>⟨(C.2.2.2.1 x hx).1,(C.2.2.2.1 x hx).2.1,(C.2.2.2.1 x hx).2.2,L8 (S.2.2.2.1 x hx).2.2.2 f2⟩,fun x hx=>⟨(C.2.2.2.2 x hx).1,(C.2.2.2.2 x hx).2,L8 (S.2.2.2.2.2.1 x hx).2.2.1 f2,fun r hr=>L8 ((S.2.2.2.2.2.1 x hx).2.2.2 r hr).2.1 f2⟩,fun x hx=>(by cases hx),z,z,z,z,z⟩
theorem FB {p y:bZ} {m:aD} {r:Int} (C:zb p) (h:gq p=r) (b:r=0) (c:iq p=y) (e:rz y=m):s0 m.aa.ag.ls≤1000∧m.aa.au≤4∧s0 m.aC.ls+s0 m.aa.ak.ls≤8∧s0 m.aa.aK.ls≤4:=by
  subst c; subst e
  have a:=(DZ C h b).1
  refine⟨L8 a.1 f2,a.2.1, ?_,a.2.2.2⟩
  show 0+s0 p.ak.ls≤8
  have:=a.2.2.1; omega
end Go.Proofs.YtbkagebjhbphaaaGreat
