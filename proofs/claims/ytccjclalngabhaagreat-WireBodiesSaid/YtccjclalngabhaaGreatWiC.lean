/-
  Messages that may be are small.
  Conditions: none beyond each law's own.
-/
import Derived.Test.YtccjclalngabhaaGreatWc
namespace Go.Proofs.YtccjclalngabhaaGreat
set_option maxRecDepth 100000
set_option linter.unusedVariables false
set_option linter.unusedSimpArgs false
theorem aQ {α β:Type} (x:α) (f:α→β):bnd x f=f x:=rfl
def d9 (a:bG):Int:=
  if a.ae≤0 then 180 else if a.ae ≥ 15 then 180 else if((Int.toNat a.ae:Nat):Int)=1 then bnd (bQ 2 a.bn) fun n=>if n=true then bnd (bQ 0 a.dm) fun o=>if o=true then bnd (fe (bG.mk a.ae a.bn a.dm a.aO a.bq a.bM 0 0 a.bE a.bH a.bL a.aS a.bB a.aK a.xN a.bV a.aG (Ll.mk ([])) (Ll.mk a.ai.ls) (Ll.mk a.aj.ls))) fun p=>if p=true then bnd (dP a ([0,1,7])) fun q=>if q=true then 0 else 180 else 180 else 180 else 180 else if((Int.toNat a.ae:Nat):Int)=2 then bnd (bQ 0 a.bn) fun r=>if r=true then bnd (bQ 2 a.dm) fun s=>if s=true then bnd (fe (bG.mk a.ae a.bn a.dm a.aO 0 a.bM 0 0 a.bE a.bH a.bL a.aS a.bB a.aK a.xN a.bV a.aG (Ll.mk a.az.ls) (Ll.mk ([])) (Ll.mk a.aj.ls))) fun t=>if t=true then bnd (dP a ([0,1,2,3])) fun u=>if u=true then 0 else 180 else 180 else 180 else 180 else if((Int.toNat a.ae:Nat):Int)=3 then bnd (bQ 0 a.bn) fun v=>if v=true then bnd (bQ 1 a.dm) fun w=>if w=true then bnd (fe (bG.mk a.ae a.bn a.dm a.aO a.bq a.bM a.bF a.aY 0 0 a.bL 0 a.bB a.aK a.xN a.bV a.aG (Ll.mk ([])) (Ll.mk a.ai.ls) (Ll.mk a.aj.ls))) fun x=>if x=true then bnd (dP a ([4,5,6,7])) fun y=>if y=true then 0 else 180 else 180 else 180 else 180 else if((Int.toNat a.ae:Nat):Int)=4 then bnd (bQ 1 a.bn) fun z=>if z=true then bnd (bQ 0 a.dm) fun A=>if A=true then bnd (fe (bG.mk a.ae a.bn a.dm a.aO 0 a.bM a.bF a.aY 0 a.bH a.bL a.aS a.bB a.aK a.xN a.bV a.aG (Ll.mk a.az.ls) (Ll.mk ([])) (Ll.mk a.aj.ls))) fun B=>if B=true then bnd (dP a ([4,2,3])) fun C=>if C=true then 0 else 180 else 180 else 180 else 180 else if((Int.toNat a.ae:Nat):Int)=5 then bnd (bQ 0 a.bn) fun D=>if D=true then bnd (bQ 1 a.dm) fun E=>if E=true then bnd (fe (bG.mk a.ae a.bn a.dm a.aO a.bq a.bM a.bF a.aY 0 a.bH a.bL a.aS a.bB a.aK a.xN false a.aG (Ll.mk a.az.ls) (Ll.mk a.ai.ls) (Ll.mk a.aj.ls))) fun F=>if F=true then bnd (dP a ([4,8])) fun G=>if G=true then 0 else 180 else 180 else 180 else 180 else if((Int.toNat a.ae:Nat):Int)=6 then bnd (bQ 1 a.bn) fun H=>if H=true then bnd (bQ 0 a.dm) fun I=>if I=true then bnd (fe (bG.mk a.ae a.bn a.dm a.aO a.bq a.bM a.bF a.aY 0 a.bH a.bL a.aS a.bB a.aK a.xN a.bV a.aG (Ll.mk a.az.ls) (Ll.mk a.ai.ls) (Ll.mk a.aj.ls))) fun J=>if J=true then bnd (dP a ([4])) fun K=>if K=true then 0 else 180 else 180 else 180 else 180 else if((Int.toNat a.ae:Nat):Int)=7 then bnd (bQ 1 a.bn) fun L=>if L=true then bnd (bQ 0 a.dm) fun M=>if M=true then bnd (fe (bG.mk a.ae a.bn a.dm a.aO a.bq a.bM a.bF a.aY 0 a.bH a.bL a.aS a.bB a.aK a.xN a.bV a.aG (Ll.mk a.az.ls) (Ll.mk a.ai.ls) (Ll.mk a.aj.ls))) fun N=>if N=true then bnd (dP a ([4])) fun O=>if O=true then 0 else 180 else 180 else 180 else 180 else if((Int.toNat a.ae:Nat):Int)=8 then bnd (bQ 0 a.bn) fun P=>if P=true then bnd (bQ 1 a.dm) fun Q=>if Q=true then bnd (fe (bG.mk a.ae a.bn a.dm a.aO a.bq a.bM a.bF a.aY a.bE a.bH 0 0 0 a.aK a.xN a.bV a.aG (Ll.mk a.az.ls) (Ll.mk a.ai.ls) (Ll.mk ([])))) fun R=>if R=true then bnd (dP a ([9,6,10,11])) fun S=>if S=true then 0 else 180 else 180 else 180 else 180 else if((Int.toNat a.ae:Nat):Int)=9 then bnd (bQ 1 a.bn) fun T=>if T=true then bnd (bQ 0 a.dm) fun U=>if U=true then bnd (fe (bG.mk a.ae a.bn a.dm a.aO a.bq a.bM a.bF a.aY a.bE a.bH 0 a.aS a.bB a.aK a.xN a.bV a.aG (Ll.mk a.az.ls) (Ll.mk a.ai.ls) (Ll.mk a.aj.ls))) fun V=>if V=true then bnd (dP a ([9])) fun W=>if W=true then 0 else 180 else 180 else 180 else 180 else if((Int.toNat a.ae:Nat):Int)=10 then bnd (bQ 0 a.bn) fun X=>if X=true then bnd (bQ 1 a.dm) fun Y=>if Y=true then bnd (fe (bG.mk a.ae a.bn a.dm a.aO a.bq 0 a.bF a.aY a.bE a.bH 0 a.aS 0 a.aK a.xN false (bC.mk ([]) ([])) (Ll.mk a.az.ls) (Ll.mk a.ai.ls) (Ll.mk a.aj.ls))) fun Z=>if Z=true then bnd (dP a ([9,10,12,8,13])) fun aa=>if aa=true then 0 else 180 else 180 else 180 else 180 else if((Int.toNat a.ae:Nat):Int)=11 then bnd (bQ 1 a.bn) fun ae=>if ae=true then bnd (bQ 1 a.dm) fun af=>if af=true then bnd (fe (bG.mk a.ae a.bn a.dm a.aO a.bq a.bM a.bF a.aY a.bE a.bH a.bL a.aS 0 0 0 a.bV (bC.mk ([]) ([])) (Ll.mk ([])) (Ll.mk a.ai.ls) (Ll.mk a.aj.ls))) fun ag=>if ag=true then bnd (dP a ([10,14,15,13,7])) fun ah=>if ah=true then if a.bn=a.dm then 180 else 0 else 180 else 180 else 180 else 180 else if((Int.toNat a.ae:Nat):Int)=12 then bnd (bQ 1 a.bn) fun b=>if b=true then bnd (bQ 1 a.dm) fun c=>if c=true then bnd (fe (bG.mk a.ae a.bn a.dm a.aO a.bq a.bM a.bF a.aY a.bE a.bH a.bL a.aS 0 0 0 a.bV a.aG (Ll.mk a.az.ls) (Ll.mk a.ai.ls) (Ll.mk a.aj.ls))) fun d=>if d=true then bnd (dP a ([10,14,15])) fun e=>if e=true then if a.bn=a.dm then 180 else 0 else 180 else 180 else 180 else 180 else if((Int.toNat a.ae:Nat):Int)=13 then bnd (bQ 1 a.bn) fun f=>if f=true then bnd (bQ 0 a.dm) fun g=>if g=true then bnd (fe (bG.mk a.ae a.bn a.dm a.aO a.bq a.bM a.bF a.aY a.bE a.bH a.bL a.aS 0 a.aK a.xN a.bV a.aG (Ll.mk a.az.ls) (Ll.mk a.ai.ls) (Ll.mk a.aj.ls))) fun h=>if h=true then bnd (dP a ([10])) fun i=>if i=true then 0 else 180 else 180 else 180 else 180 else bnd (bQ 1 a.bn) fun j=>if j=true then bnd (bQ 0 a.dm) fun k=>if k=true then bnd (fe (bG.mk a.ae a.bn a.dm a.aO a.bq a.bM a.bF a.aY a.bE a.bH a.bL a.aS 0 a.aK a.xN a.bV a.aG (Ll.mk a.az.ls) (Ll.mk a.ai.ls) (Ll.mk a.aj.ls))) fun l=>if l=true then bnd (dP a ([10])) fun m=>if m=true then 0 else 180 else 180 else 180 else 180
theorem vU {k:Int} (h:k≤0):bY k=(dK.mk 0 0 (Ll.mk ([])),false):=by unfold bY; rw [if_pos h]
theorem vV {k:Int} (a: ¬ k≤0) (h:k ≥ 15):bY k=(dK.mk 0 0 (Ll.mk ([])),false):=by unfold bY; rw [if_neg a,if_pos h]
theorem kinds {k:Int} (a: ¬ k≤0) (b: ¬ k ≥ 15):k=1∨k=2∨k=3∨k=4∨k=5∨k=6∨k=7∨k=8∨k=9∨k=10∨k=11∨k=12∨k=13∨k=14:=by omega
theorem iW (m:bG):dH m=d9 m:=by
  by_cases a:m.ae≤0
  · unfold dH d9; rw [vU a,if_pos a]; rfl
  by_cases b:m.ae ≥ 15
  · unfold dH d9; rw [vV a b,if_neg a,if_pos b]; rfl
  unfold dH d9 bY
  rw [if_neg a,if_neg b,if_neg a,if_neg b,Int.toNat_of_nonneg (show 0≤m.ae by omega)]
  rcases kinds a b with k | k | k | k | k | k | k | k | k | k | k | k | k | k <;> rw [k]
  all_goals
    simp only [Int.reduceEq, ↓reduceIte,aQ,bi]
theorem nX {k:List UInt8} (h:bX k=0):List.length k≤12:=by
  unfold bX at h
  repeat' split at h
  all_goals omega
theorem tH {r:bC} (h:gJ r=0):List.length r.aD≤12∧List.length r.aI≤12:=by
  have e:(r.aD= []∨bX r.aD=0)∧(r.aI= []∨bX r.aI=0):=by
    by_cases a:r.aD= [] <;> by_cases b:r.aI= [] <;> by_cases c:bX r.aD=0 <;> by_cases d:bX r.aI=0 <;> simp [gJ,aQ,a,b,c,d] at h ⊢ <;> simp_all
  refine⟨?_, ?_⟩
  · rcases e.1 with a | a
    · rw [a]; exact Nat.zero_le _
    · exact nX a
  · rcases e.2 with a | a
    · rw [a]; exact Nat.zero_le _
    · exact nX a
def xm (x:aB):Prop:=List.length x.aL≤12∧List.length x.au≤16∧List.length x.aD≤12∧List.length x.aI≤12
theorem nl {l:List UInt8} {n:Nat} (h: []=l):List.length l≤n:=by rw [← h]; exact Nat.zero_le _
theorem uN {x:aB} (h:dN x=0):xm x:=by
  unfold dN at h
  simp only [aQ,j5,lF,lG,kU] at h
  split at h
  · split at h
    · rename_i e
      obtain⟨_,_,a,b,c,_⟩:=e
      exact⟨nX h,nl a,nl b,nl c⟩
    · omega
  split at h
  · split at h
    · rename_i e
      obtain⟨_,_,_,b,c,_⟩:=e
      unfold jW kX at h
      simp only [aQ] at h
      split at h
      · split at h
        · omega
        · exact⟨nX (by assumption),by omega,nl b,nl c⟩
      · omega
    · omega
  split at h
  · split at h
    · rename_i e
      obtain⟨_,_,a,b,c,_⟩:=e
      exact⟨nX h,nl a,nl b,nl c⟩
    · omega
  split at h
  · split at h
    · rename_i e
      obtain⟨_,d,a,_,_,_⟩:=e
      unfold jX iF kI at h
      simp only [aQ] at h
      split at h
      · have:=tH (by assumption)
        exact⟨nl d,nl a,this.1,this.2⟩
      · omega
    · omega
  split at h
  · split at h
    · rename_i e
      obtain⟨_,d,a,_,_,_⟩:=e
      unfold iF kI at h
      simp only [aQ] at h
      have:=tH h
      exact⟨nl d,nl a,this.1,this.2⟩
    · omega
  · omega
theorem vW:∀ l:List aB,(lp (eO l) fun _=>0)=0→∀ x ∈ l,dN x=0
  | [],_,x,hx=>by cases hx
  | y::q,h,x,hx=>by
    by_cases e:dN y=0
    · simp only [eO,aQ,if_pos e] at h
      rcases List.mem_cons.1 hx with rfl | hx
      · exact e
      · exact vW q h x hx
    · simp only [eO,aQ,if_neg e,lp] at h
      exact absurd h e
theorem vX:∀ l:List aB,(lp (eT l) fun _=>true)=true→∀ x ∈ l,dN x=0
  | [],_,x,hx=>by cases hx
  | y::q,h,x,hx=>by
    by_cases e:dN y=0
    · simp only [eT,aQ,if_pos e] at h
      rcases List.mem_cons.1 hx with rfl | hx
      · exact e
      · exact vX q h x hx
    · simp only [eT,aQ,if_neg e,lp] at h
      cases h
theorem xz {x:aB} (h:fV x=0):dN x=0:=by
  unfold fV at h
  simp only [aQ] at h
  split at h
  · exact h
  · omega
theorem vY:∀ l:List aB,(lp (dU l) fun _=>true)=true→∀ x ∈ l,dN x=0
  | [],_,x,hx=>by cases hx
  | y::q,h,x,hx=>by
    by_cases e:fV y=0
    · simp only [dU,aQ,if_pos e] at h
      rcases List.mem_cons.1 hx with rfl | hx
      · exact xz e
      · exact vY q h x hx
    · simp only [dU,aQ,if_neg e,lp] at h
      cases h
theorem xA {k:Int} {l:List aB} (h:eX k l=true):List.length l≤24∧∀ x ∈ l,xm x:=by
  unfold eX lU jY jQ jE at h
  simp only [aQ] at h
  split at h
  · split at h
    · exact absurd (of_decide_eq_true h) (by decide)
    · split at h
      · exact absurd (of_decide_eq_true h) (by decide)
      · exact⟨by omega,fun x hx=>uN (vW l (of_decide_eq_true h) x hx)⟩
  · split at h
    · split at h
      · split at h
        · exact⟨by omega,fun x hx=>uN (vX l h x hx)⟩
        · cases h
      · cases h
    · split at h
      · exact⟨by omega,fun x hx=>uN (vY l h x hx)⟩
      · cases h
def xn (q:aW):Prop:=List.length q.aL≤12∧List.length q.au≤16
def xq (x:aX):Prop:=List.length x.au≤16∧List.length x.ay.ls≤4∧∀ q ∈ x.ay.ls,xn q
theorem vZ:∀ l:List aW,cO l= .inl ()→∀ x ∈ l,xn x
  | [],_,x,hx=>by cases hx
  | y::q,h,x,hx=>by
    by_cases e:bX y.aL=0
    · by_cases v:((List.length y.au:Nat):Int) > 16
      · simp only [cO,aQ,if_pos e,if_pos v] at h
        cases h
      · simp only [cO,aQ,if_pos e,if_neg v] at h
        rcases List.mem_cons.1 hx with rfl | hx
        · exact⟨nX e,by omega⟩
        · exact vZ q h x hx
    · simp only [cO,aQ,if_neg e] at h
      cases h
theorem wh:∀ l:List aX,dh l= .inl ()→∀ x ∈ l,xq x
  | [],_,x,hx=>by cases hx
  | y::q,h,x,hx=>by
    simp only [dh] at h
    split at h
    · cases h
    · split at h
      · cases h
      · rcases e:cO y.ay.ls with u | u
        · rw [e] at h
          rcases List.mem_cons.1 hx with rfl | hx
          · exact⟨by omega,by omega,vZ _ e⟩
          · exact wh q h x hx
        · rw [e] at h
          cases h
theorem xC {k:Int} {l:List aX} (h:iC k l=true):List.length l≤24∧∀ x ∈ l,xq x:=by
  unfold iC at h
  rw [aQ] at h
  have e:(if k=2 then 4 else 24:Nat)≤24:=by split <;> omega
  generalize (if k=2 then 4 else 24:Nat)=z at e h
  split at h
  · cases h
  · rcases f:dh l with u | u
    · exact⟨by omega,wh l f⟩
    · exfalso
      rw [f] at h
      have:∀ q:List aX, ∀ b,dh q= .inr b→b=false:=by
        have a:∀ q:List aW, ∀ b,cO q= .inr b→b=false:=by
          intro q
          induction q with
          | nil=>intro b h; cases h
          | cons y q ih=>
            intro b h
            simp only [cO,aQ] at h
            split at h
            · split at h
              · cases h; rfl
              · exact ih b h
            · cases h; rfl
        intro q
        induction q with
        | nil=>intro b h; cases h
        | cons y q ih=>
          intro b h
          simp only [dh] at h
          split at h
          · cases h; rfl
          · split at h
            · cases h; rfl
            · rcases e:cO y.ay.ls with u | u
              · rw [e] at h; exact ih b h
              · rw [e] at h
                have:=a _ _ e
                subst this
                cases h; rfl
      have:=this l u f
      subst this
      cases h
theorem wm (l:List aA):∀ (q:List aA) (k:Nat),(lp (dQ l q k) fun _=>0)=0→0 < k→∀ x ∈ q,List.length x.aD≤12
  | [],_,_,_,x,hx=>by cases hx
  | y::q,k,h,hk,x,hx=>by
    simp only [dQ,aQ] at h
    split at h
    · split at h
      · split at h
        · split at h
          · simp only [lp] at h; omega
          · rcases List.mem_cons.1 hx with rfl | hx
            · exact nX (by assumption)
            · exact wm l q _ h (by omega) x hx
        · simp only [lp] at h; omega
      · omega
    · simp only [lp] at h; omega
theorem xD {l:List aA} (h:jA l=0):List.length l≤6∧∀ x ∈ l,List.length x.aD≤12:=by
  unfold jA at h
  split at h
  · omega
  · split at h
    · omega
    · rw [aQ] at h
      split at h
      · omega
      · rename_i a b c
        refine⟨by omega, ?_⟩
        match l,h,c with
        | [],_,_=>intro x hx; cases hx
        | y::q,h,c=>
          intro x hx
          simp only [dQ,aQ] at h
          split at h
          · rw [if_neg (by omega)] at h
            rcases List.mem_cons.1 hx with rfl | hx
            · have c':x.aD= []:=Classical.not_not.1 c
              rw [c']; exact Nat.zero_le _
            · exact wm _ q _ h (by omega) x hx
          · simp only [lp] at h; omega
theorem kS (m:bG):∀ l:List Int,dP m l=true↔∀ f ∈ l,gm m f=true
  | []=>by simp [dP,fQ,lp]
  | y::q=>by
    have ih:=kS m q
    by_cases e:gm m y=true
    · have:dP m (y::q)=dP m q:=by simp only [dP,fQ,aQ,if_pos e]
      rw [this,ih]
      simp [e]
    · have:dP m (y::q)=false:=by simp only [dP,fQ,aQ,if_neg e,lp]
      rw [this]
      simp [e]
theorem wQ {m:bG} (h:fe m=true):m.az.ls= []∧m.ai.ls= []∧m.aj.ls= []∧m.aG.aD= []∧m.aG.aI= []:=by
  unfold fe at h
  repeat' split at h
  all_goals first | (cases h; done) | skip
  rename_i e _ _ _ _
  have d:=of_decide_eq_true h
  exact⟨List.eq_nil_of_length_eq_zero (by omega),List.eq_nil_of_length_eq_zero (by omega),List.eq_nil_of_length_eq_zero (by omega),d.1,d.2⟩
def xu (m:bG):Prop:=(List.length m.az.ls≤24∧∀ x ∈ m.az.ls,List.length x.aL≤12∧List.length x.au≤16∧List.length x.aD≤12∧List.length x.aI≤12)∧(List.length m.ai.ls≤24∧∀ x ∈ m.ai.ls,List.length x.au≤16∧List.length x.ay.ls≤4∧∀ q ∈ x.ay.ls,List.length q.aL≤12∧List.length q.au≤16)∧(List.length m.aj.ls≤6∧∀ x ∈ m.aj.ls,List.length x.aD≤12)∧List.length m.aG.aD≤12∧List.length m.aG.aI≤12
theorem vK {m m':bG} {fs:List Int} (hb:fe m'=true) (ha:dP m fs=true) (ho:m'.az=Ll.mk m.az.ls∨7 ∈ fs) (hr:m'.ai=Ll.mk m.ai.ls∨3 ∈ fs) (hw:m'.aj=Ll.mk m.aj.ls∨11 ∈ fs) (hg:m'.aG=m.aG∨13 ∈ fs):xu m:=by
  obtain⟨b,c,d,g,i⟩:=wQ hb
  have a:=(kS m fs).1 ha
  have j:7 ∈ fs→eX m.ae m.az.ls=true:=fun h=>by have:=a 7 h; simpa [gm,aQ] using this
  have k:3 ∈ fs→iC m.ae m.ai.ls=true:=fun h=>by have:=a 3 h; simpa [gm,aQ] using this
  have e:11 ∈ fs→jA m.aj.ls=0:=fun h=>by have:=a 11 h; simpa [gm,aQ] using this
  have f:13 ∈ fs→gJ m.aG=0:=fun h=>by have:=a 13 h; simpa [gm,aQ] using this
  refine⟨?_, ?_, ?_, ?_⟩
  · rcases ho with h | h
    · rw [h] at b
      have b:m.az.ls= []:=b
      rw [b]; exact⟨Nat.zero_le _,fun x hx=>by cases hx⟩
    · exact xA (j h)
  · rcases hr with h | h
    · rw [h] at c
      have c:m.ai.ls= []:=c
      rw [c]; exact⟨Nat.zero_le _,fun x hx=>by cases hx⟩
    · exact xC (k h)
  · rcases hw with h | h
    · rw [h] at d
      have d:m.aj.ls= []:=d
      rw [d]; exact⟨Nat.zero_le _,fun x hx=>by cases hx⟩
    · exact xD (e h)
  · rcases hg with h | h
    · rw [h] at g i
      rw [g,i]; exact⟨Nat.zero_le _,Nat.zero_le _⟩
    · exact tH (f h)
theorem tJ {c:Prop} [Decidable c] {x:Int} (h:(if c then x else 180)=0):c∧x=0:=by
  by_cases e:c
  · rw [if_pos e] at h; exact⟨e,h⟩
  · rw [if_neg e] at h; exact absurd h (by decide)
theorem wo {m:bG} (h:dH m=0):xu m:=by
  rw [iW] at h
  by_cases a:m.ae≤0
  · unfold d9 at h; rw [if_pos a] at h; exact absurd h (by decide)
  by_cases b:m.ae ≥ 15
  · unfold d9 at h; rw [if_neg a,if_pos b] at h; exact absurd h (by decide)
  unfold d9 at h
  rw [if_neg a,if_neg b,Int.toNat_of_nonneg (show 0≤m.ae by omega)] at h
  rcases kinds a b with k | k | k | k | k | k | k | k | k | k | k | k | k | k <;> rw [k] at h
  all_goals
    simp only [Int.reduceEq, ↓reduceIte,aQ] at h
    obtain⟨_,h⟩:=tJ h
    obtain⟨_,h⟩:=tJ h
    obtain⟨hb,h⟩:=tJ h
    obtain⟨ha,_⟩:=tJ h
    refine vK hb ha ?_ ?_ ?_ ?_ <;> first | exact .inl rfl | exact .inr (by decide)
end Go.Proofs.YtccjclalngabhaaGreat
