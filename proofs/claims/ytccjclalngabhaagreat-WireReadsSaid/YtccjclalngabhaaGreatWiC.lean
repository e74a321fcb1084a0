/-
  Messages that may be are small.
  Conditions: none beyond each law's own.
-/
import Derived.Test.YtccjclalngabhaaGreatWc
namespace Go.Proofs.YtccjclalngabhaaGreat
set_option maxRecDepth 100000
set_option linter.unusedVariables false
set_option linter.unusedSimpArgs false
theorem aT {α β:Type} (x:α) (f:α→β):bnd x f=f x:=rfl
def ed (a:bE):Int:=
  if a.ae≤0 then 180 else if a.ae ≥ 15 then 180 else if((Int.toNat a.ae:Nat):Int)=1 then bnd (bQ 2 a.bq) fun n=>if n=true then bnd (bQ 0 a.dw) fun o=>if o=true then bnd (fe (bE.mk a.ae a.bq a.dw a.aQ a.bu a.bO 0 0 a.bF a.bH a.bL a.aV a.bB a.aK a.xN a.bV a.aG (Ll.mk ([])) (Ll.mk a.ah.ls) (Ll.mk a.ai.ls))) fun p=>if p=true then bnd (dQ a ([0,1,7])) fun q=>if q=true then 0 else 180 else 180 else 180 else 180 else if((Int.toNat a.ae:Nat):Int)=2 then bnd (bQ 0 a.bq) fun r=>if r=true then bnd (bQ 2 a.dw) fun s=>if s=true then bnd (fe (bE.mk a.ae a.bq a.dw a.aQ 0 a.bO 0 0 a.bF a.bH a.bL a.aV a.bB a.aK a.xN a.bV a.aG (Ll.mk a.ax.ls) (Ll.mk ([])) (Ll.mk a.ai.ls))) fun t=>if t=true then bnd (dQ a ([0,1,2,3])) fun u=>if u=true then 0 else 180 else 180 else 180 else 180 else if((Int.toNat a.ae:Nat):Int)=3 then bnd (bQ 0 a.bq) fun v=>if v=true then bnd (bQ 1 a.dw) fun w=>if w=true then bnd (fe (bE.mk a.ae a.bq a.dw a.aQ a.bu a.bO a.bG a.aY 0 0 a.bL 0 a.bB a.aK a.xN a.bV a.aG (Ll.mk ([])) (Ll.mk a.ah.ls) (Ll.mk a.ai.ls))) fun x=>if x=true then bnd (dQ a ([4,5,6,7])) fun y=>if y=true then 0 else 180 else 180 else 180 else 180 else if((Int.toNat a.ae:Nat):Int)=4 then bnd (bQ 1 a.bq) fun z=>if z=true then bnd (bQ 0 a.dw) fun A=>if A=true then bnd (fe (bE.mk a.ae a.bq a.dw a.aQ 0 a.bO a.bG a.aY 0 a.bH a.bL a.aV a.bB a.aK a.xN a.bV a.aG (Ll.mk a.ax.ls) (Ll.mk ([])) (Ll.mk a.ai.ls))) fun B=>if B=true then bnd (dQ a ([4,2,3])) fun C=>if C=true then 0 else 180 else 180 else 180 else 180 else if((Int.toNat a.ae:Nat):Int)=5 then bnd (bQ 0 a.bq) fun D=>if D=true then bnd (bQ 1 a.dw) fun E=>if E=true then bnd (fe (bE.mk a.ae a.bq a.dw a.aQ a.bu a.bO a.bG a.aY 0 a.bH a.bL a.aV a.bB a.aK a.xN false a.aG (Ll.mk a.ax.ls) (Ll.mk a.ah.ls) (Ll.mk a.ai.ls))) fun F=>if F=true then bnd (dQ a ([4,8])) fun G=>if G=true then 0 else 180 else 180 else 180 else 180 else if((Int.toNat a.ae:Nat):Int)=6 then bnd (bQ 1 a.bq) fun H=>if H=true then bnd (bQ 0 a.dw) fun I=>if I=true then bnd (fe (bE.mk a.ae a.bq a.dw a.aQ a.bu a.bO a.bG a.aY 0 a.bH a.bL a.aV a.bB a.aK a.xN a.bV a.aG (Ll.mk a.ax.ls) (Ll.mk a.ah.ls) (Ll.mk a.ai.ls))) fun J=>if J=true then bnd (dQ a ([4])) fun K=>if K=true then 0 else 180 else 180 else 180 else 180 else if((Int.toNat a.ae:Nat):Int)=7 then bnd (bQ 1 a.bq) fun L=>if L=true then bnd (bQ 0 a.dw) fun M=>if M=true then bnd (fe (bE.mk a.ae a.bq a.dw a.aQ a.bu a.bO a.bG a.aY 0 a.bH a.bL a.aV a.bB a.aK a.xN a.bV a.aG (Ll.mk a.ax.ls) (Ll.mk a.ah.ls) (Ll.mk a.ai.ls))) fun N=>if N=true then bnd (dQ a ([4])) fun O=>if O=true then 0 else 180 else 180 else 180 else 180 else if((Int.toNat a.ae:Nat):Int)=8 then bnd (bQ 0 a.bq) fun P=>if P=true then bnd (bQ 1 a.dw) fun Q=>if Q=true then bnd (fe (bE.mk a.ae a.bq a.dw a.aQ a.bu a.bO a.bG a.aY a.bF a.bH 0 0 0 a.aK a.xN a.bV a.aG (Ll.mk a.ax.ls) (Ll.mk a.ah.ls) (Ll.mk ([])))) fun R=>if R=true then bnd (dQ a ([9,6,10,11])) fun S=>if S=true then 0 else 180 else 180 else 180 else 180 else if((Int.toNat a.ae:Nat):Int)=9 then bnd (bQ 1 a.bq) fun T=>if T=true then bnd (bQ 0 a.dw) fun U=>if U=true then bnd (fe (bE.mk a.ae a.bq a.dw a.aQ a.bu a.bO a.bG a.aY a.bF a.bH 0 a.aV a.bB a.aK a.xN a.bV a.aG (Ll.mk a.ax.ls) (Ll.mk a.ah.ls) (Ll.mk a.ai.ls))) fun V=>if V=true then bnd (dQ a ([9])) fun W=>if W=true then 0 else 180 else 180 else 180 else 180 else if((Int.toNat a.ae:Nat):Int)=10 then bnd (bQ 0 a.bq) fun X=>if X=true then bnd (bQ 1 a.dw) fun Y=>if Y=true then bnd (fe (bE.mk a.ae a.bq a.dw a.aQ a.bu 0 a.bG a.aY a.bF a.bH 0 a.aV 0 a.aK a.xN false (bC.mk ([]) ([])) (Ll.mk a.ax.ls) (Ll.mk a.ah.ls) (Ll.mk a.ai.ls))) fun Z=>if Z=true then bnd (dQ a ([9,10,12,8,13])) fun aa=>if aa=true then 0 else 180 else 180 else 180 else 180 else if((Int.toNat a.ae:Nat):Int)=11 then bnd (bQ 1 a.bq) fun ae=>if ae=true then bnd (bQ 1 a.dw) fun af=>if af=true then bnd (fe (bE.mk a.ae a.bq a.dw a.aQ a.bu a.bO a.bG a.aY a.bF a.bH a.bL a.aV 0 0 0 a.bV (bC.mk ([]) ([])) (Ll.mk ([])) (Ll.mk a.ah.ls) (Ll.mk a.ai.ls))) fun ag=>if ag=true then bnd (dQ a ([10,14,15,13,7])) fun ah=>if ah=true then if a.bq=a.dw then 180 else 0 else 180 else 180 else 180 else 180 else if((Int.toNat a.ae:Nat):Int)=12 then bnd (bQ 1 a.bq) fun b=>if b=true then bnd (bQ 1 a.dw) fun c=>if c=true then bnd (fe (bE.mk a.ae a.bq a.dw a.aQ a.bu a.bO a.bG a.aY a.bF a.bH a.bL a.aV 0 0 0 a.bV a.aG (Ll.mk a.ax.ls) (Ll.mk a.ah.ls) (Ll.mk a.ai.ls))) fun d=>if d=true then bnd (dQ a ([10,14,15])) fun e=>if e=true then if a.bq=a.dw then 180 else 0 else 180 else 180 else 180 else 180 else if((Int.toNat a.ae:Nat):Int)=13 then bnd (bQ 1 a.bq) fun f=>if f=true then bnd (bQ 0 a.dw) fun g=>if g=true then bnd (fe (bE.mk a.ae a.bq a.dw a.aQ a.bu a.bO a.bG a.aY a.bF a.bH a.bL a.aV 0 a.aK a.xN a.bV a.aG (Ll.mk a.ax.ls) (Ll.mk a.ah.ls) (Ll.mk a.ai.ls))) fun h=>if h=true then bnd (dQ a ([10])) fun i=>if i=true then 0 else 180 else 180 else 180 else 180 else bnd (bQ 1 a.bq) fun j=>if j=true then bnd (bQ 0 a.dw) fun k=>if k=true then bnd (fe (bE.mk a.ae a.bq a.dw a.aQ a.bu a.bO a.bG a.aY a.bF a.bH a.bL a.aV 0 a.aK a.xN a.bV a.aG (Ll.mk a.ax.ls) (Ll.mk a.ah.ls) (Ll.mk a.ai.ls))) fun l=>if l=true then bnd (dQ a ([10])) fun m=>if m=true then 0 else 180 else 180 else 180 else 180
theorem wE {k:Int} (h:k≤0):bY k=(dM.mk 0 0 (Ll.mk ([])),false):=by unfold bY; rw [if_pos h]
theorem wF {k:Int} (a: ¬ k≤0) (h:k ≥ 15):bY k=(dM.mk 0 0 (Ll.mk ([])),false):=by unfold bY; rw [if_neg a,if_pos h]
theorem kinds {k:Int} (a: ¬ k≤0) (b: ¬ k ≥ 15):k=1∨k=2∨k=3∨k=4∨k=5∨k=6∨k=7∨k=8∨k=9∨k=10∨k=11∨k=12∨k=13∨k=14:=by omega
theorem jd (m:bE):dJ m=ed m:=by
  by_cases a:m.ae≤0
  · unfold dJ ed; rw [wE a,if_pos a]; rfl
  by_cases b:m.ae ≥ 15
  · unfold dJ ed; rw [wF a b,if_neg a,if_pos b]; rfl
  unfold dJ ed bY
  rw [if_neg a,if_neg b,if_neg a,if_neg b,Int.toNat_of_nonneg (show 0≤m.ae by omega)]
  rcases kinds a b with k | k | k | k | k | k | k | k | k | k | k | k | k | k <;> rw [k]
  all_goals
    simp only [Int.reduceEq, ↓reduceIte,aT,bi]
theorem ow {k:List UInt8} (h:bX k=0):List.length k≤12:=by
  unfold bX at h
  repeat' split at h
  all_goals omega
theorem ui {r:bC} (h:gK r=0):List.length r.aD≤12∧List.length r.aH≤12:=by
  have e:(r.aD= []∨bX r.aD=0)∧(r.aH= []∨bX r.aH=0):=by
    by_cases a:r.aD= [] <;> by_cases b:r.aH= [] <;> by_cases c:bX r.aD=0 <;> by_cases d:bX r.aH=0 <;> simp [gK,aT,a,b,c,d] at h ⊢ <;> simp_all
  refine⟨?_, ?_⟩
  · rcases e.1 with a | a
    · rw [a]; exact BJ _
    · exact ow a
  · rcases e.2 with a | a
    · rw [a]; exact BJ _
    · exact ow a
def xL (x:aB):Prop:=List.length x.aL≤12∧List.length x.au≤16∧List.length x.aD≤12∧List.length x.aH≤12
theorem nl {l:List UInt8} {n:Nat} (h: []=l):List.length l≤n:=by rw [← h]; exact BJ _
theorem vw {x:aB} (h:dO x=0):xL x:=by
  unfold dO at h
  simp only [aT,ku,lQ,lS,lc] at h
  split at h
  · split at h
    · rename_i e
      obtain⟨_,_,a,b,c,_⟩:=e
      exact⟨ow h,nl a,nl b,nl c⟩
    · omega
  split at h
  · split at h
    · rename_i e
      obtain⟨_,_,_,b,c,_⟩:=e
      unfold j4 ll at h
      simp only [aT] at h
      split at h
      · split at h
        · omega
        · exact⟨ow (by assumption),by omega,nl b,nl c⟩
      · omega
    · omega
  split at h
  · split at h
    · rename_i e
      obtain⟨_,_,a,b,c,_⟩:=e
      exact⟨ow h,nl a,nl b,nl c⟩
    · omega
  split at h
  · split at h
    · rename_i e
      obtain⟨_,d,a,_,_,_⟩:=e
      unfold j5 iM kP at h
      simp only [aT] at h
      split at h
      · have:=ui (by assumption)
        exact⟨nl d,nl a,this.1,this.2⟩
      · omega
    · omega
  split at h
  · split at h
    · rename_i e
      obtain⟨_,d,a,_,_,_⟩:=e
      unfold iM kP at h
      simp only [aT] at h
      have:=ui h
      exact⟨nl d,nl a,this.1,this.2⟩
    · omega
  · omega
theorem wG:∀ l:List aB,(lp (eO l) fun _=>0)=0→∀ x ∈ l,dO x=0
  | [],_,x,hx=>by cases hx
  | y::q,h,x,hx=>by
    by_cases e:dO y=0
    · simp only [eO,aT,if_pos e] at h
      rcases List.mem_cons.1 hx with rfl | hx
      · exact e
      · exact wG q h x hx
    · simp only [eO,aT,if_neg e,lp] at h
      exact absurd h e
theorem wH:∀ l:List aB,(lp (eT l) fun _=>true)=true→∀ x ∈ l,dO x=0
  | [],_,x,hx=>by cases hx
  | y::q,h,x,hx=>by
    by_cases e:dO y=0
    · simp only [eT,aT,if_pos e] at h
      rcases List.mem_cons.1 hx with rfl | hx
      · exact e
      · exact wH q h x hx
    · simp only [eT,aT,if_neg e,lp] at h
      cases h
theorem xU {x:aB} (h:fZ x=0):dO x=0:=by
  unfold fZ at h
  simp only [aT] at h
  split at h
  · exact h
  · omega
theorem wI:∀ l:List aB,(lp (dW l) fun _=>true)=true→∀ x ∈ l,dO x=0
  | [],_,x,hx=>by cases hx
  | y::q,h,x,hx=>by
    by_cases e:fZ y=0
    · simp only [dW,aT,if_pos e] at h
      rcases List.mem_cons.1 hx with rfl | hx
      · exact xU e
      · exact wI q h x hx
    · simp only [dW,aT,if_neg e,lp] at h
      cases h
theorem xV {k:Int} {l:List aB} (h:eX k l=true):List.length l≤24∧∀ x ∈ l,xL x:=by
  unfold eX l9 j6 jV jJ at h
  simp only [aT] at h
  split at h
  · split at h
    · exact absurd (of_decide_eq_true h) (by decide)
    · split at h
      · exact absurd (of_decide_eq_true h) (by decide)
      · exact⟨by omega,fun x hx=>vw (wG l (of_decide_eq_true h) x hx)⟩
  · split at h
    · split at h
      · split at h
        · exact⟨by omega,fun x hx=>vw (wH l h x hx)⟩
        · cases h
      · cases h
    · split at h
      · exact⟨by omega,fun x hx=>vw (wI l h x hx)⟩
      · cases h
def xM (q:aR):Prop:=List.length q.aL≤12∧List.length q.au≤16
def xO (x:aP):Prop:=List.length x.au≤16∧List.length x.ak.ls≤4∧∀ q ∈ x.ak.ls,xM q
theorem wJ:∀ l:List aR,cZ l= .inl ()→∀ x ∈ l,xM x
  | [],_,x,hx=>by cases hx
  | y::q,h,x,hx=>by
    by_cases e:bX y.aL=0
    · by_cases v:((List.length y.au:Nat):Int) > 16
      · simp only [cZ,aT,if_pos e,if_pos v] at h
        cases h
      · simp only [cZ,aT,if_pos e,if_neg v] at h
        rcases List.mem_cons.1 hx with rfl | hx
        · exact⟨ow e,by omega⟩
        · exact wJ q h x hx
    · simp only [cZ,aT,if_neg e] at h
      cases h
theorem wK:∀ l:List aP,dm l= .inl ()→∀ x ∈ l,xO x
  | [],_,x,hx=>by cases hx
  | y::q,h,x,hx=>by
    simp only [dm] at h
    split at h
    · cases h
    · split at h
      · cases h
      · rcases e:cZ y.ak.ls with u | u
        · rw [e] at h
          rcases List.mem_cons.1 hx with rfl | hx
          · exact⟨by omega,by omega,wJ _ e⟩
          · exact wK q h x hx
        · rw [e] at h
          cases h
theorem xW {k:Int} {l:List aP} (h:iJ k l=true):List.length l≤24∧∀ x ∈ l,xO x:=by
  unfold iJ at h
  rw [aT] at h
  have e:(if k=2 then 4 else 24:Nat)≤24:=by split <;> omega
  generalize (if k=2 then 4 else 24:Nat)=z at e h
  split at h
  · cases h
  · rcases f:dm l with u | u
    · exact⟨by omega,wK l f⟩
    · exfalso
      rw [f] at h
      have:∀ q:List aP, ∀ b,dm q= .inr b→b=false:=by
        have a:∀ q:List aR, ∀ b,cZ q= .inr b→b=false:=by
          intro q
          induction q with
          | nil=>intro b h; cases h
          | cons y q ih=>
            intro b h
            simp only [cZ,aT] at h
            split at h
            · split at h
              · cases h; rfl
              · exact ih b h
            · cases h; rfl
        intro q
        induction q with
        | nil=>intro b h; cases h
        | cons y q ih=>
          intro b h
          simp only [dm] at h
          split at h
          · cases h; rfl
          · split at h
            · cases h; rfl
            · rcases e:cZ y.ak.ls with u | u
              · rw [e] at h; exact ih b h
              · rw [e] at h
                have:=a _ _ e
                subst this
                cases h; rfl
      have:=this l u f
      subst this
      cases h
theorem wL (l:List aA):∀ (q:List aA) (k:Nat),(lp (dR l q k) fun _=>0)=0→0 < k→∀ x ∈ q,List.length x.aD≤12
  | [],_,_,_,x,hx=>by cases hx
  | y::q,k,h,hk,x,hx=>by
    simp only [dR,aT] at h
    split at h
    · split at h
      · split at h
        · split at h
          · simp only [lp] at h; omega
          · rcases List.mem_cons.1 hx with rfl | hx
            · exact ow (by assumption)
            · exact wL l q _ h (by omega) x hx
        · simp only [lp] at h; omega
      · omega
    · simp only [lp] at h; omega
theorem xX {l:List aA} (h:jE l=0):List.length l≤6∧∀ x ∈ l,List.length x.aD≤12:=by
  unfold jE at h
  split at h
  · omega
  · split at h
    · omega
    · rw [aT] at h
      split at h
      · omega
      · rename_i a b c
        refine⟨by omega, ?_⟩
        match l,h,c with
        | [],_,_=>intro x hx; cases hx
        | y::q,h,c=>
          intro x hx
          simp only [dR,aT] at h
          split at h
          · rw [if_neg (by omega)] at h
            rcases List.mem_cons.1 hx with rfl | hx
            · have c':x.aD= []:=Classical.not_not.1 c
              rw [c']; exact BJ _
            · exact wL _ q _ h (by omega) x hx
          · simp only [lp] at h; omega
theorem kX (m:bE):∀ l:List Int,dQ m l=true↔∀ f ∈ l,gp m f=true
  | []=>by simp [dQ,fT,lp]
  | y::q=>by
    have ih:=kX m q
    by_cases e:gp m y=true
    · have:dQ m (y::q)=dQ m q:=by simp only [dQ,fT,aT,if_pos e]
      rw [this,ih]
      simp [e]
    · have:dQ m (y::q)=false:=by simp only [dQ,fT,aT,if_neg e,lp]
      rw [this]
      simp [e]
theorem xn {m:bE} (h:fe m=true):m.ax.ls= []∧m.ah.ls= []∧m.ai.ls= []∧m.aG.aD= []∧m.aG.aH= []:=by
  unfold fe at h
  repeat' split at h
  all_goals first | (cases h; done) | skip
  rename_i e _ _ _ _
  have d:=of_decide_eq_true h
  exact⟨List.eq_nil_of_length_eq_zero (by omega),List.eq_nil_of_length_eq_zero (by omega),List.eq_nil_of_length_eq_zero (by omega),d.1,d.2⟩
def xP (m:bE):Prop:=(List.length m.ax.ls≤24∧∀ x ∈ m.ax.ls,List.length x.aL≤12∧List.length x.au≤16∧List.length x.aD≤12∧List.length x.aH≤12)∧(List.length m.ah.ls≤24∧∀ x ∈ m.ah.ls,List.length x.au≤16∧List.length x.ak.ls≤4∧∀ q ∈ x.ak.ls,List.length q.aL≤12∧List.length q.au≤16)∧(List.length m.ai.ls≤6∧∀ x ∈ m.ai.ls,List.length x.aD≤12)∧List.length m.aG.aD≤12∧List.length m.aG.aH≤12
theorem wm {m m':bE} {fs:List Int} (hb:fe m'=true) (ha:dQ m fs=true) (ho:m'.ax=Ll.mk m.ax.ls∨7 ∈ fs) (hr:m'.ah=Ll.mk m.ah.ls∨3 ∈ fs) (hw:m'.ai=Ll.mk m.ai.ls∨11 ∈ fs) (hg:m'.aG=m.aG∨13 ∈ fs):xP m:=by
  obtain⟨b,c,d,g,i⟩:=xn hb
  have a:=(kX m fs).1 ha
  have j:7 ∈ fs→eX m.ae m.ax.ls=true:=fun h=>by have:=a 7 h; simpa [gp,aT] using this
  have k:3 ∈ fs→iJ m.ae m.ah.ls=true:=fun h=>by have:=a 3 h; simpa [gp,aT] using this
  have e:11 ∈ fs→jE m.ai.ls=0:=fun h=>by have:=a 11 h; simpa [gp,aT] using this
  have f:13 ∈ fs→gK m.aG=0:=fun h=>by have:=a 13 h; simpa [gp,aT] using this
  refine⟨?_, ?_, ?_, ?_⟩
  · rcases ho with h | h
    · rw [h] at b
      have b:m.ax.ls= []:=b
      rw [b]; exact⟨BJ _,fun x hx=>by cases hx⟩
    · exact xV (j h)
  · rcases hr with h | h
    · rw [h] at c
      have c:m.ah.ls= []:=c
      rw [c]; exact⟨BJ _,fun x hx=>by cases hx⟩
    · exact xW (k h)
  · rcases hw with h | h
    · rw [h] at d
      have d:m.ai.ls= []:=d
      rw [d]; exact⟨BJ _,fun x hx=>by cases hx⟩
    · exact xX (e h)
  · rcases hg with h | h
    · rw [h] at g i
      rw [g,i]; exact⟨BJ _,BJ _⟩
    · exact ui (f h)
theorem uj {c:Prop} [Decidable c] {x:Int} (h:(if c then x else 180)=0):c∧x=0:=by
  by_cases e:c
  · rw [if_pos e] at h; exact⟨e,h⟩
  · rw [if_neg e] at h; exact absurd h (by decide)
theorem wM {m:bE} (h:dJ m=0):xP m:=by
  rw [jd] at h
  by_cases a:m.ae≤0
  · unfold ed at h; rw [if_pos a] at h; exact absurd h (by decide)
  by_cases b:m.ae ≥ 15
  · unfold ed at h; rw [if_neg a,if_pos b] at h; exact absurd h (by decide)
  unfold ed at h
  rw [if_neg a,if_neg b,Int.toNat_of_nonneg (show 0≤m.ae by omega)] at h
  rcases kinds a b with k | k | k | k | k | k | k | k | k | k | k | k | k | k <;> rw [k] at h
  all_goals
    simp only [Int.reduceEq, ↓reduceIte,aT] at h
    obtain⟨_,h⟩:=uj h
    obtain⟨_,h⟩:=uj h
    obtain⟨hb,h⟩:=uj h
    obtain⟨ha,_⟩:=uj h
    refine wm hb ha ?_ ?_ ?_ ?_ <;> first | exact .inl rfl | exact .inr (by decide)
end Go.Proofs.YtccjclalngabhaaGreat
