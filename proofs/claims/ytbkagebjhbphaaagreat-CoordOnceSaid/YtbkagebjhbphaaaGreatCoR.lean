/-
  Which results may be, what is gathered of them, how operations are cut along the chapter's owners. Conditions: none beyond each law's own.
-/
import Derived.Test.YtbkagebjhbphaaaGreatCoG
namespace Go.Proofs.YtbkagebjhbphaaaGreat
open Int renaming natCast_nonneg→V1,toNat→D0
open List renaming cons_ne_nil→V2,flatMap→q3,flatMap_eq_nil_iff→V3,getD→C0,getD_eq_getElem?_getD→L4,getElem?_eq_none→r7,length→r8,length_set→H1,mem_append→v6,mem_of_mem_drop→S2,mem_of_mem_take→G0,mem_or_eq_of_mem_set→O0,mem_replicate→O3
set_option linter.unusedVariables false
set_option linter.unusedSimpArgs false
def Rg (r:aQ):Prop:=iA r=true
def Pg (p:aI):Prop:=ib p.bY=0∧p.aT.length≤16
theorem zU:∀ l:List aI,(fG l= .inl ()∧∀ p ∈ l,Pg p)∨(fG l= .inr false∧¬ ∀ p ∈ l,Pg p)
  | []=> .inl ⟨rfl,fun p hp=>by cases hp⟩
  | x::l=>by
    simp only [fG,bnd]
    split
    · rename_i a
      split
      · exact .inr ⟨rfl,fun h=>by have:=(h x b1).2; omega⟩
      · rcases zU l with ⟨e,h⟩ | ⟨e,h⟩
        · exact .inl ⟨e,fun p hp=>by
            rcases List.mem_cons.1 hp with rfl | hp
            · exact⟨a,e6⟩
            · exact h p hp⟩
        · exact .inr ⟨e,fun h'=>h fun p hp=>h' p (.tail _ hp)⟩
    · rename_i a
      exact .inr ⟨rfl,fun h=>a (h x b1).1⟩
theorem EE {r:aQ} (b:r.aT.length≤16) (c:r.ak.ls.length≤4) (a:∀ p ∈ r.ak.ls,Pg p):Rg r:=by
  unfold Rg iA
  rw [if_neg e6,if_neg e6]
  rcases zU r.ak.ls with ⟨e,h⟩ | ⟨e,h⟩
  · rw [e]; rfl
  · exact absurd a h
theorem GH {r:aQ} (h:Rg r):∀ p ∈ r.ak.ls,Pg p:=by
  unfold Rg iA at h
  split at h
  · cases h
  split at h
  · cases h
  rcases zU r.ak.ls with ⟨e,h'⟩ | ⟨e,h'⟩
  · exact h'
  · rw [e] at h; cases h
theorem EF:∀ l:List aI,iq l=fG l
  | []=>rfl
  | x::l=>by simp only [iq,fG,bnd,EF l]
abbrev Gk (l:List aQ):Prop:=∀ x ∈ l,Rg x
theorem CJ:∀ {l:List aQ},lp (gY l) (fun _=>true)=true→Gk l
  | [],_,x,hx=>by cases hx
  | y::l,h,x,hx=>by
    simp only [gY] at h
    split at h
    · cases h
    split at h
    · cases h
    rw [EF] at h
    rcases zU y.ak.ls with ⟨e,hp⟩ | ⟨e,hp⟩
    · rw [e] at h
      rcases List.mem_cons.1 hx with rfl | hx
      · exact EE e6 e6 hp
      · exact CJ h x hx
    · rw [e] at h; cases h
theorem Gd {x:bL} (h:lQ x=0):Gk x.ai.ls:=by
  unfold lQ qC at h
  simp only [bnd] at h
  rcases el:pu x.aD with ⟨y,ok⟩
  rw [el] at h
  split at h
  case isFalse=>cases h
  split at h
  case isFalse=>cases h
  split at h
  case isFalse=>cases h
  split at h
  case isFalse=>cases h
  rename_i hb
  split at h
  case isFalse=>cases h
  rename_i hm
  have hc:=CG x y y.cK.ls x.dz x.eH x.aP x.av x.aN x.dY x.aV x.aL x.dL x.cu x.xN x.cz x.bU.bF x.bU.bT x.aH.ls x.ai.ls x.ag.ls
  have hl:=zD hb
  simp only at hl
  by_cases a:(3:Int) ∈ y.cK.ls
  · have:=Bj hm 3 a
    simp only [oZ,og,bnd,Int.reduceEq, ↓reduceIte] at this
    split at this
    · split at this
      · cases this
      · exact CJ this
    · split at this
      · cases this
      · exact CJ this
  · rw [← hc.2.1 a,hl.2.1]; intro x hx; cases hx
theorem qE {α:Type} [Inhabited α] {l:List α} {i:Nat} (h:i < l.length):C0 l i default ∈ l:=List.mem_of_getElem? (getD_at h)
theorem zk {l:List aI} {a m b:Nat} {x:aI} (h:x ∈ uF l a m b):x ∈ l:=by
  unfold uF at h
  rcases v6.1 h with h | h
  · exact G0 h
  rcases v6.1 h with h | h
  · exact G0 (S2 h)
  rcases v6.1 h with h | h
  · exact G0 (S2 h)
  · exact S2 h
theorem zl {α:Type} {l:List α} {c:Prop} [Decidable c] {p q:List α} (a:∀ x ∈ p,x ∈ l) (b:∀ x ∈ q,x ∈ l):∀ x ∈ (if c then p else q),x ∈ l:=by split <;> assumption
theorem vC:∀ (f:Nat) (l:List aI) (a m b:Nat), ∀ x ∈ pJ f l a m b,x ∈ l
  | 0,l,_,_,_,x,h=>h
  | f+1,l,a,m,b,x,h=>by
    unfold pJ at h
    split at h
    · exact zk h
    split at h
    · exact zk h
    dsimp only at h
    have d:∀ {c:Prop} [Decidable c] {a m b:Nat}, ∀ x ∈ (if c then uF l a m b else l),x ∈ l:=zl (fun y hy=>zk hy) fun y hy=>hy
    have e:∀ {c c':Prop} [Decidable c] [Decidable c'] {a m b a' m' b':Nat}, ∀ x ∈ (if c' then pJ f (if c then uF l a m b else l) a' m' b' else(if c then uF l a m b else l)),x ∈ l:=zl (fun y hy=>d y (vC f _ _ _ _ y hy)) d
    exact zl (fun y hy=>e y (vC f _ _ _ _ y hy)) e x h
def Jn (P:aI→Prop) (n:Nat) (l:List aI):Prop:=(∀ x ∈ l,P x)∧(l.length=n∨l= [])
section
variable {P:aI→Prop} {n:Nat}
theorem yJ:Jn P n []:=⟨fun x hx=>(by cases hx), .inr rfl⟩
theorem Dz {a:Int} (b:0≤a):∀ (q:Nat) (z:Int) (l:List aI),z < ((n:Nat):Int)→Jn P n l→Jn P n (gH a q z l)
  | 0,z,l,_,_=>yJ
  | q+1,z,l,hz,J=>by
    simp only [gH,bnd]
    split
    · split
      · refine Dz b q (z - 1) _ e6 ?_
        rcases J.2 with e | rfl
        · refine⟨fun x hx=> ?_, .inl (by rw [H1,H1]; exact e)⟩
          rcases O0 hx with hx | rfl
          · rcases O0 hx with hx | rfl
            · exact J.1 x hx
            · exact J.1 _ (qE (l:=l) (i:=D0 (z - 1)) e6)
          · exact J.1 _ (qE (l:=l) (i:=D0 z) e6)
        · exact yJ
      · exact J
    · exact J
theorem Bo {a p2:Int} (b:0≤a) (c:p2≤((n:Nat):Int)):∀ (q:Nat) (z:Int) (l:List aI),Jn P n l→Jn P n (gI a p2 q z l)
  | 0,z,l,_=>yJ
  | q+1,z,l,J=>by
    simp only [gI,bnd]
    split
    · exact Bo b c q (z+1) _ (Dz b _ z l e6 J)
    · exact J
theorem DC:∀ (q a b:Nat) (l:List aI),Jn P n l→Jn P n (iB ((n:Nat):Int) q a b l).2
  | 0,a,b,l,_=>yJ
  | q+1,a,b,l,J=>by
    simp only [iB,bnd]
    split
    · exact DC q b (b+20) _ (Bo (V1 _) e6 _ _ l J)
    · exact J
end
theorem Bp (c:Int) (k:Nat):∀ (q a b:Nat) (l:List aI), ∀ x ∈ (iC c k q a b l).2,x ∈ l
  | 0,a,b,l,x,h=>by cases h
  | q+1,a,b,l,x,h=>by
    simp only [iC,bnd] at h
    split at h
    · exact vC _ _ _ _ _ x (Bp c k q b _ _ x h)
    · exact h
theorem Bq (a:Int):∀ (q k:Nat) (l:List aI), ∀ x ∈ gX a q k l,x ∈ l
  | 0,k,l,x,h=>by cases h
  | q+1,k,l,x,h=>by
    simp only [gX,bnd] at h
    split at h
    · split at h
      · exact Bp _ _ _ _ _ _ x (vC _ _ _ _ _ x (Bq a q _ _ x h))
      · exact Bp _ _ _ _ _ _ x (Bq a q _ _ x h)
    · exact h
theorem E9 {l:List aI} {x:aI} (h:x ∈ jr l):x ∈ l:=by
  have a:=Bq _ _ _ _ x h
  have J:=DC (P:=fun x=>x ∈ l) (n:=l.length) (D0 (((l.length:Nat):Int)+1 - 20)+1) 0 20 l ⟨fun x hx=>hx, .inl rfl⟩
  exact(Bo (p2:=((l.length:Nat):Int)) (V1 _) e6 _ _ _ J).1 x a
theorem CK {l:List (Ll aQ)} (h:∀ r ∈ l,Gk r.ls) (i:Nat):Gk (C0 l i default).ls:=by
  by_cases hi:i < l.length
  · exact h _ (qE hi)
  · rw [L4,r7 e6]; intro x hx; cases hx
theorem Br {l:List aQ} (h:Gk l) (i:Nat):Rg (C0 l i default):=by
  by_cases hi:i < l.length
  · exact h _ (qE hi)
  · rw [L4,r7 e6]; exact(rfl:iA default=true)
theorem EG {c:List (Ll aQ)} (d:∀ r ∈ c,Gk r.ls) (k:Nat):∀ (q:List Int) (j:Nat) (l:List (Ll aQ)),(∀ r ∈ l,Gk r.ls)→∀ r ∈ kF c k q j l,Gk r.ls
  | [],_,l,h=>h
  | a::q,j,l,h=>EG d k q (j+1) _ fun r hr=>by
    rcases O0 hr with b | rfl
    · exact h r b
    · intro x hx
      rcases v6.1 hx with b | b
      · exact CK h _ x b
      · rw [List.mem_singleton.1 b]; exact Br (CK d _) _
theorem EH {l0:List bi} {b:List (Ll aQ)} (c:∀ r ∈ b,Gk r.ls):∀ (q:List gF) (k:Nat) (l:List (Ll aQ)),(∀ r ∈ l,Gk r.ls)→∀ r ∈ jH l0 b q k l,Gk r.ls
  | [],k,l,h=>h
  | a::q,k,l,h=>EH c q (k+1) _ (EG c k _ 0 l h)
theorem EI (p:bi):∀ (l:List aQ) (o:List aI),Gk l→(∀ x ∈ o,Pg x)→∀ x ∈ jC p l o,Pg x
  | [],o,_,h=>h
  | y::l,o,hl,h=>EI p l _ (fun x hx=>hl x (.tail _ hx)) fun x hx=>by
    rcases v6.1 hx with a | a
    · exact h x a
    · exact GH (hl y b1) x a
theorem GI {p:bi} (hp:p.bS≤4) {l:List aQ} (h:Gk l):Rg (jq p l):=by
  unfold jq
  simp only [bnd]
  split
  · exact EE (Lg _) (by simp only [List.length_take]; omega) fun x hx=>EI p l [] h (fun x hx=>by cases hx) x (E9 (G0 hx))
  · split
    · exact(rfl:iA default=true)
    · exact Br h 0
theorem EJ {l:List (Ll aQ)} (h:∀ r ∈ l,Gk r.ls):∀ (q:List bi) (k:Nat) (r:List aQ),(∀ o ∈ q,o.bS≤4)→Gk r→Gk (jI l q k r)∧r8 (jI l q k r)=r8 r
  | [],_,r,_,hr=>⟨hr,rfl⟩
  | a::q,k,r,ho,hr=>by
    have b:=EJ h q (k+1) (List.set r k (aQ.mk (jq a (C0 l k default).ls).eF (jq a (C0 l k default).ls).aT (Ll.mk (jq a (C0 l k default).ls).ak.ls))) (fun o h=>ho o (List.mem_cons_of_mem _ h)) (fun x hx=>by
      rcases O0 hx with b | rfl
      · exact hr x b
      · exact GI (ho a List.mem_cons_self) (CK h _))
    exact⟨b.1,b.2.trans H1⟩
theorem DD {l0:List bi} {l1:List gF} {a:List (Ll aQ)} {r:List aQ} {e:Int} (h:lM l0 l1 a=(r,e)) (ho:∀ o ∈ l0,o.bS≤4) (c:∀ q ∈ a,Gk q.ls):Gk r∧r8 r≤r8 l0:=by
  unfold lM at h
  simp only [bnd] at h
  split at h
  · obtain⟨rfl,_⟩:=Prod.mk.inj h
    have b:=EJ (l:=jH l0 a l1 0 (List.replicate (r8 l0) (Ll.mk []:Ll aQ))) (EH (l0:=l0) c l1 0 _ fun q hq=>by rw [(O3.1 hq).2]; intro x hx; cases hx) l0 0 (List.replicate (r8 l0) (aQ.mk false ([]) (Ll.mk ([])))) ho (fun x hx=>by rw [(O3.1 hx).2]; exact(rfl:iA default=true))
    exact⟨b.1,by rw [b.2,List.length_replicate]; exact Nat.le_refl _⟩
  · obtain⟨rfl,_⟩:=Prod.mk.inj h
    exact⟨fun x hx=>(by cases hx),Lg _⟩
def OW:List aY:= [aY.mk [] 1,aY.mk [109] 2]
def Bt (l:List Int):Prop:=l= [1]∨l= [2]∨l= [1,2]
theorem Fa {k:Int} (c:k≠1) (d:k≠2) (o:bi):jc OW k o= []:=by
  unfold jc
  have a: ¬ ((1:Int)=k):=fun e=>c e.symm
  have b: ¬ ((2:Int)=k):=fun e=>d e.symm
  split
  · simp only [gy,OW,ig,if_neg a,if_neg b]
  split
  · simp only [gz,OW,ig,if_neg a,if_neg b]
  · simp only [qD,jW,OW,ig]
    split
    · split
      · exact if_neg b
      · exact if_neg a
    · split
      · exact if_neg b
      · exact if_neg a
theorem Gf {o:bi} (h:kH o=0):(o.aD=4∨o.aD=5→kG (bC.mk o.bF o.bT)=0)∧o.bS≤4:=by
  have z:∀ {a:bi},a.bS=0→(a.aD=o.aD∧a.bY=o.bY∧a.aT=o.aT∧a.bF=o.bF∧a.bT=o.bT∧a.bS=o.bS)→o.bS≤4:=fun c b=>by
    have:=b.2.2.2.2.2; omega
  unfold kH at h
  simp only [ig] at h
  split at h
  · rename_i hk
    split at h
    · rename_i b; exact⟨fun e=>by omega,z rfl b⟩
    · cases h
  split at h
  · rename_i hk
    split at h
    · rename_i b; exact⟨fun e=>by omega,z rfl b⟩
    · cases h
  split at h
  · rename_i hk
    split at h
    · rename_i b; exact⟨fun e=>by omega,z rfl b⟩
    · cases h
  split at h
  · split at h
    · unfold pW at h
      rw [show mJ o=kG (bC.mk o.bF o.bT) from rfl] at h
      simp only [ig] at h
      by_cases c:kG (bC.mk o.bF o.bT)=0
      · rw [if_pos c] at h
        split at h
        · cases h
        · split at h
          · cases h
          · exact⟨fun _=>c,e6⟩
      · rw [if_neg c] at h; exact absurd h c
    · cases h
  split at h
  · split at h
    · rename_i b
      unfold mJ at h
      exact⟨fun _=>h,z rfl b⟩
    · cases h
  · cases h
theorem EK {lo hi:List UInt8} (h:kG (bC.mk lo hi)=0):(iK (bC.mk lo hi) (bC.mk [] [109])).2=true∨(iK (bC.mk lo hi) (bC.mk [109] [])).2=true:=by
  have hlt:hi≠ []→lo < hi:=fun hh=>by
    unfold kG at h
    simp only [ig] at h
    by_cases b:lo≠ []
    · rw [if_pos b] at h
      split at h
      · split at h
        · split at h
          · cases h
          · rename_i a; exact List.not_le.1 a
        · cases h
      · cases h
    · rw [if_neg b,if_pos hh] at h
      split at h
      · split at h
        · cases h
        · rename_i a; exact List.not_le.1 a
      · cases h
  have bl:∀ {x:List UInt8},lo < x→o6 lo x=true:=fun {x} hx=>by
    unfold o6
    by_cases e:x= []
    · rw [if_pos e]
    · rw [if_neg e]; exact decide_eq_true hx
  by_cases c:lo < [109]
  · refine .inl ?_
    unfold iK
    simp only [ig]
    rw [if_pos h,if_pos (by decide+kernel)]
    have hm:pG lo []=lo:=if_neg (List.not_lt_nil lo)
    rw [hm]
    have hb:o6 lo (mO hi [109])=true:=by
      unfold mO
      by_cases e:hi= []
      · rw [if_pos e]; exact bl c
      · rw [if_neg e,if_pos (V2 _ _)]
        split
        · exact bl c
        · exact bl (hlt e)
    rw [if_pos hb]
  · refine .inr ?_
    unfold iK
    simp only [ig]
    rw [if_pos h,if_pos (by decide+kernel)]
    have hm:pG lo [109]=lo:=if_neg c
    rw [hm]
    have hb:o6 lo (mO hi [])=true:=by
      unfold mO
      by_cases e:hi= []
      · rw [if_pos e]; exact if_pos rfl
      · rw [if_neg e,if_neg (fun h=>h rfl)]; exact bl (hlt e)
    rw [if_pos hb]
theorem Ej {o:bi} (h:kH o=0):jc OW 1 o≠ []∨jc OW 2 o≠ []:=by
  have hc:=(Gf h).1
  unfold jc
  by_cases a:o.aD=4
  · rw [if_pos a,if_pos a]
    simp only [ig]
    have c:gy OW 1 o OW [] 0=if(iK (bC.mk o.bF o.bT) (bC.mk [] [109])).2=true then [bi.mk o.aD [] [] (iK (bC.mk o.bF o.bT) (bC.mk [] [109])).1.bF (iK (bC.mk o.bF o.bT) (bC.mk [] [109])).1.bT o.bS] else []:=rfl
    have d:gy OW 2 o OW [] 0=if(iK (bC.mk o.bF o.bT) (bC.mk [109] [])).2=true then [bi.mk o.aD [] [] (iK (bC.mk o.bF o.bT) (bC.mk [109] [])).1.bF (iK (bC.mk o.bF o.bT) (bC.mk [109] [])).1.bT o.bS] else []:=rfl
    rw [c,d]
    rcases EK (hc (.inl a)) with hm | hm
    · exact .inl (by rw [if_pos hm]; exact V2 _ _)
    · exact .inr (by rw [if_pos hm]; exact V2 _ _)
  rw [if_neg a,if_neg a]
  by_cases b:o.aD=5
  · rw [if_pos b,if_pos b]
    simp only [ig]
    have c:gz OW 1 o OW [] 0=if(iK (bC.mk o.bF o.bT) (bC.mk [] [109])).2=true then [bi.mk o.aD [] [] (iK (bC.mk o.bF o.bT) (bC.mk [] [109])).1.bF (iK (bC.mk o.bF o.bT) (bC.mk [] [109])).1.bT o.bS] else []:=rfl
    have d:gz OW 2 o OW [] 0=if(iK (bC.mk o.bF o.bT) (bC.mk [109] [])).2=true then [bi.mk o.aD [] [] (iK (bC.mk o.bF o.bT) (bC.mk [109] [])).1.bF (iK (bC.mk o.bF o.bT) (bC.mk [109] [])).1.bT o.bS] else []:=rfl
    rw [c,d]
    rcases EK (hc (.inr b)) with hm | hm
    · exact .inl (by rw [if_pos hm]; exact V2 _ _)
    · exact .inr (by rw [if_pos hm]; exact V2 _ _)
  rw [if_neg b,if_neg b]
  simp only [qD,jW,OW,ig]
  split
  · split
    · exact .inr (V2 o [])
    · exact .inl (V2 o [])
  · split
    · exact .inr (V2 o [])
    · exact .inl (V2 o [])
theorem EL (l0:List aY) (pl:List gF) (k:Nat):∀ (q:List bi) (j:Nat) (l:List bi) (m:List Int),(jX l0 pl k q j l m).1=l++q3 (jc l0 ((k:Nat):Int)) q
  | [],j,l,m=>(List.append_nil l).symm
  | x::q,j,l,m=>by
    simp only [jX,bnd]
    rw [EL l0 pl k q,List.flatMap_cons,List.append_assoc]
theorem qH {l0:List aY} {l1:List bi} {q:Nat} {l:List gF} {k:Nat}:(q3 (jc l0 ((k:Nat):Int)) l1= []→iE l0 l1 (q+1) l k=iE l0 l1 q l (k+1))∧(q3 (jc l0 ((k:Nat):Int)) l1≠ []→∃ a b,iE l0 l1 (q+1) l k=iE l0 l1 q (l++ [gF.mk ((k:Nat):Int) a b]) (k+1)):=by
  have e:=EL l0 l k l1 0 [] []
  rw [List.nil_append] at e
  simp only [iE,bnd]
  refine⟨fun h=>if_neg ?_,fun h=>⟨_,_,if_pos ?_⟩⟩
  · rw [e,h]; decide
  · rw [e]; have:=List.length_pos_iff.2 h; omega
theorem Gg {ops:List bi} {r:List gF} {e:Int} (h:lF OW ops=(r,e)) (he:e=0):Bt (gu r [])∧ops.length≤4∧∀ o ∈ ops,o.bS≤4:=by
  subst he
  have hc:=Dx h
  unfold lF at h
  simp only [bnd] at h
  rw [if_pos (by decide+kernel),if_pos hc] at h
  obtain⟨rfl,_⟩:=Prod.mk.inj h
  unfold oo pX at hc
  simp only [bnd] at hc
  split at hc
  · cases hc
  split at hc
  · cases hc
  have hE:=zh rfl hc
  refine⟨?_,e6,fun o ho=>(Gf (hE o ho)).2⟩
  have c:∀ k:Nat,((k:Nat):Int)≠1→((k:Nat):Int)≠2→q3 (jc OW ((k:Nat):Int)) ops= []:=fun k d g=>V3.2 fun o _=>Fa d g o
  have some_:q3 (jc OW ((1:Nat):Int)) ops≠ []∨q3 (jc OW ((2:Nat):Int)) ops≠ []:=by
    cases ops with
    | nil=>simp at *
    | cons o ops=>
      rcases Ej (hE o b1) with d | d
      · exact .inl fun e=>d (V3.1 e o b1)
      · exact .inr fun e=>d (V3.1 e o b1)
  rw [(qH (q:=4) (k:=0)).1 (c 0 f4 f4)]
  by_cases c1:q3 (jc OW ((1:Nat):Int)) ops= []
  · rw [(qH (q:=3) (k:=1)).1 c1]
    obtain⟨a,b,f⟩:=(qH (l0:=OW) (l1:=ops) (l:= []) (q:=2) (k:=2)).2 (some_.resolve_left fun h=>h c1)
    rw [f,(qH (q:=1) (k:=3)).1 (c 3 f4 f4),(qH (q:=0) (k:=4)).1 (c 4 f4 f4)]
    exact .inr (.inl rfl)
  · obtain⟨a,b,i⟩:=(qH (l0:=OW) (l1:=ops) (l:= []) (q:=3) (k:=1)).2 c1
    rw [i]
    by_cases c2:q3 (jc OW ((2:Nat):Int)) ops= []
    · rw [(qH (q:=2) (k:=2)).1 c2,(qH (q:=1) (k:=3)).1 (c 3 f4 f4),(qH (q:=0) (k:=4)).1 (c 4 f4 f4)]
      exact .inl rfl
    · obtain⟨j,m,f⟩:=(qH (l0:=OW) (l1:=ops) (l:= []++ [gF.mk ((1:Nat):Int) a b]) (q:=2) (k:=2)).2 c2
      rw [f,(qH (q:=1) (k:=3)).1 (c 3 f4 f4),(qH (q:=0) (k:=4)).1 (c 4 f4 f4)]
      exact .inr (.inr rfl)
end Go.Proofs.YtbkagebjhbphaaaGreat
