/-
  Which messages may be: the program and the document's answer say the same.
  Conditions: numbers of 64 bits.
-/
import Derived.Test.YtccjclalngabhaaGreatWiM
import Derived.Test.YtccjclalngabhaaGreatWiC
namespace Go.Proofs.YtccjclalngabhaaGreat
set_option maxRecDepth 100000
set_option linter.unusedVariables false
set_option linter.unusedSimpArgs false
def qL (l:List UInt8):Prop:=l.all (fun y=> [113,98,116,108,118,101,109,97,110,99,112,102,114,111,115,119].contains y)=true
theorem qL.ip {c:Prop} [Decidable c] {a b:List UInt8} (ha:qL a) (hb:qL b):qL (if c then a else b):=by by_cases h:c <;> simp only [h,if_true,if_false] <;> assumption
theorem vL (k:Int):qL (dw k):=by
  unfold dw
  simp only [aQ]
  repeat' apply qL.ip
  all_goals rfl
theorem sQ {k:Int} {l:List UInt8} (h:dw k=l) {i:Nat} {x:UInt8} (hx:l[i]? =some x):x.toNat=113∨x.toNat=98∨x.toNat=116∨x.toNat=108∨x.toNat=118∨x.toNat=101∨x.toNat=109∨x.toNat=97∨x.toNat=110∨x.toNat=99∨x.toNat=112∨x.toNat=102∨x.toNat=114∨x.toNat=111∨x.toNat=115∨x.toNat=119:=by
  have a:=List.all_eq_true.1 (vL k) x (h ▸ List.mem_of_getElem? hx)
  simp only [List.contains_eq_mem,List.mem_cons,List.not_mem_nil,or_false,decide_eq_true_eq] at a
  rcases a with rfl | rfl | rfl | rfl | rfl | rfl | rfl | rfl | rfl | rfl | rfl | rfl | rfl | rfl | rfl | rfl <;> decide
theorem wrapN (n:Nat):Int.toNat (IntKind.u64.wrap ((n:Nat):Int))=n % 18446744073709551616:=by
  simp only [IntKind.wrap,IntKind.signed,IntKind.bits]; simp; omega
theorem rU (a b:Nat) (ha:a < 18446744073709551616) (hb:b < 18446744073709551616):aZ a b=a ||| b:=by
  have h:a ||| b < 2 ^ 64:=Nat.or_lt_two_pow (by omega) (by omega)
  have e:(BitVec.ofInt 64 (a:Int) ||| BitVec.ofInt 64 (b:Int)).toNat=a ||| b:=by
    rw [BitVec.toNat_or,BitVec.toNat_ofInt,BitVec.toNat_ofInt]
    rw [show ((a:Int) % ((2 ^ 64:Nat):Int)).toNat=a by omega,show ((b:Int) % ((2 ^ 64:Nat):Int)).toNat=b by omega]
  unfold aZ
  rw [e,wrapN]
  omega
theorem oV {a b:Nat} (ha:a≤18446744073709551615) (hb:b≤18446744073709551615):aZ a b=0↔a=0∧b=0:=by
  rw [rU a b (by omega) (by omega),Nat.or_eq_zero_iff]
theorem s4 {p:Prop} [Decidable p] {r:Bool}:(if p then r else false)=true↔p∧r=true:=by by_cases p <;> simp [*]
theorem jN {m:bG} (hn:m.bF≤18446744073709551615∧m.aY≤18446744073709551615∧m.bE≤18446744073709551615∧m.bH≤18446744073709551615∧m.bL≤18446744073709551615∧m.aS≤18446744073709551615∧m.bB≤18446744073709551615∧m.aK≤18446744073709551615∧m.xN≤18446744073709551615):fe m=true↔((m.bF=0∧m.aY=0∧m.bE=0∧m.bH=0∧m.bL=0∧m.aS=0∧m.bB=0∧m.aK=0∧m.xN=0)∧(m.az.ls= []∧m.ai.ls= []∧m.aj.ls= [])∧m.aO=0∧m.bq=0∧m.bM=0∧m.bV=false∧m.aG.aD= []∧m.aG.aI= []):=by
  unfold fe
  rw [s4,s4,s4,s4,s4]
  obtain⟨f,g,i,j,k,l,n,o,p⟩:=hn
  have e:(((aZ (aZ (aZ (aZ (aZ (aZ (aZ (aZ m.bF m.aY) m.bE) m.bH) m.bL) m.aS) m.bB) m.aK) m.xN:Nat):Int)=0)↔m.bF=0∧m.aY=0∧m.bE=0∧m.bH=0∧m.bL=0∧m.aS=0∧m.bB=0∧m.aK=0∧m.xN=0:=by
    rw [show ∀ z:Nat,((z:Int)=0)=(z=0) from fun z=>propext (by omega)]
    rw [oV (iq _ _) (by omega),oV (iq _ _) (by omega),oV (iq _ _) (by omega),oV (iq _ _) (by omega),oV (iq _ _) (by omega),oV (iq _ _) (by omega),oV (iq _ _) (by omega),oV (by omega) (by omega)]
    simp only [and_assoc]
  rw [e]
  have a:(((m.az.ls.length+m.ai.ls.length)+m.aj.ls.length:Nat):Int)=0↔m.az.ls= []∧m.ai.ls= []∧m.aj.ls= []:=by
    constructor
    · intro h
      exact⟨List.eq_nil_of_length_eq_zero (by omega),List.eq_nil_of_length_eq_zero (by omega),List.eq_nil_of_length_eq_zero (by omega)⟩
    · rintro ⟨b,c,d⟩
      rw [b,c,d]; rfl
  rw [a]
  cases hf:m.bV <;> simp
theorem s1 {h:Bool} {x:Nat} {r:Bool}:(if(if h=true then false else decide (¬ ((x:Nat):Int)=0))=true then false else r)=true↔(h=true∨x=0)∧r=true:=by
  cases h
  · by_cases e:x=0
    · subst e; simp
    · have: ¬ ((x:Nat):Int)=0:=by omega
      simp [e,this]
  · simp
theorem s2 {e h d:Bool}:(if e=true then(if h=true then true else d) else false)=true↔e=true∧(h=true∨d=true):=by cases e <;> cases h <;> simp
theorem s3 {p:Prop} [Decidable p] {h d:Bool}:(if p then(if h=true then true else d) else false)=true↔p∧(h=true∨d=true):=by by_cases p <;> cases h <;> simp [*]
theorem kE (m:bG):mQ m=true↔(ak m.ae 113=true∨m.bF=0)∧(ak m.ae 98=true∨m.aY=0)∧(ak m.ae 116=true∨m.bE=0)∧(ak m.ae 108=true∨m.bH=0)∧(ak m.ae 118=true∨m.bL=0)∧(ak m.ae 101=true∨m.aS=0)∧(ak m.ae 109=true∨m.bB=0)∧(ak m.ae 97=true∨m.aK=0)∧(ak m.ae 110=true∨m.xN=0)∧m.aO=0∧(ak m.ae 99=true∨m.bq=0)∧(ak m.ae 112=true∨m.bM=0)∧(ak m.ae 102=true∨m.bV=false)∧(ak m.ae 114=true∨(m.aG.aD= []∧m.aG.aI= []))∧(ak m.ae 111=true∨m.az.ls= [])∧(ak m.ae 115=true∨m.ai.ls= [])∧(ak m.ae 119=true∨m.aj.ls= []):=by
  unfold mQ
  simp only [aQ]
  rw [s1,s1,s1,s1,s1,s1,s1,s1,s1,s2,s2,s2,s2,s2,s2,s3]
  have a:∀ {α:Type} (l:List α),decide (((List.length l:Nat):Int)=0)=true↔l= []:=fun l=>by
    rw [decide_eq_true_eq]
    constructor
    · intro h; exact List.eq_nil_of_length_eq_zero (by omega)
    · rintro rfl; rfl
  simp only [a,decide_eq_true_eq,Bool.not_eq_true',and_assoc]
theorem i1 {a b:Prop} [Decidable a] [Decidable b]:(if a then(if b then(0:Int) else 180) else 180)=if a∧b then 0 else 180:=by by_cases a <;> simp [*]
theorem i2 {a p q:Prop} [Decidable a] [Decidable p] [Decidable q]:(if a then(if p then(0:Int) else 180) else(if q then 0 else 180))=if(a∧p)∨(¬ a∧q) then 0 else 180:=by by_cases a <;> simp [*]
theorem i3 {a:Prop} [Decidable a]:(if a then(180:Int) else 0)=if ¬ a then 0 else 180:=by by_cases a <;> simp [*]
theorem i4 {a b:Prop} [Decidable a] [Decidable b] (h:a↔b):(if a then(0:Int) else 180)=if b then 0 else 180:=by by_cases b <;> simp [*]
theorem i5 {a b:Prop} [Decidable a] [Decidable b]:(if a then(180:Int) else(if b then 0 else 180))=if ¬ a∧b then 0 else 180:=by by_cases a <;> simp [*]
theorem ng (n:Int):bQ 0 n=true↔n=0:=by unfold bQ; simp
theorem ni (n:Int):bQ 1 n=true↔1≤n∧n≤4:=by unfold bQ; simp
theorem nk (n:Int):bQ 2 n=true↔11≤n∧n≤14:=by
  unfold bQ
  simp
  intro _
  omega
theorem nu (n:Int):iM n=true↔1≤n∧n≤4:=by unfold iM; simp
theorem ny (n:Int):kr n=true↔11≤n∧n≤14:=by unfold kr; simp
theorem nz (l:List aB):∀ (b:Bool),fE l b=true↔b=true∧∀ x ∈ l,jM x=true:=by
  induction l with
  | nil=>intro b; simp [fE]
  | cons y q ih=>
    intro b
    cases b
    · have:=ih false
      simp only [fE,aQ] at this ⊢
      simp [this]
    · simp only [fE,aQ]
      have:=ih (jM y)
      simp [this]
theorem jH:∀ l:List aB,jE l=true↔je l=0∧∀ x ∈ l,jM x=true
  | []=>by simp [jE,dU,je,gy,lp]
  | x::q=>by
    have ih:=jH q
    unfold jE je at ih ⊢
    have w:=wu x
    by_cases f:lC x=true
    · by_cases e:dN x=0
      · have c:fV x=0:=by unfold fV; simp [aQ,f,e]
        simp only [dU,gy,aQ,if_pos c,if_pos e, ← pE]
        rw [ih]
        simp [← w,f]
      · have c: ¬ fV x=0:=by unfold fV; simp [aQ,f,e]
        simp only [dU,gy,aQ,if_neg c,if_neg e, ← pE,lp]
        simp [e]
    · have c: ¬ fV x=0:=by unfold fV; simp [aQ,f]
      simp only [dU,aQ,if_neg c,lp]
      simp [← w,f]
theorem wV {m:bG} (h: ¬ (1≤m.ae∧m.ae≤14)):dH m=dz m:=by
  have f:dw m.ae= []:=by
    unfold dw
    simp only [aQ]
    rw [if_neg (by omega),if_neg (by omega),if_neg (by omega),if_neg (by omega),if_neg (by omega),if_neg (by rw [if_neg (by omega)]; intro q; have:=of_decide_eq_true q; omega),if_neg (by omega),if_neg (by omega),if_neg (by omega),if_neg (by omega),if_neg (by omega),if_neg (by omega),if_neg (by omega)]
  have R:dz m=180:=by
    unfold dz
    rw [aQ,f]
    exact if_pos rfl
  rw [R]
  rw [iW]; unfold d9
  by_cases a:m.ae≤0
  · rw [if_pos a]
  · rw [if_neg a,if_pos (by omega)]
set_option maxHeartbeats 4000000 in
theorem xJ {m:bG} (hk:m.ae=1) (hn:m.bF≤18446744073709551615∧m.aY≤18446744073709551615∧m.bE≤18446744073709551615∧m.bH≤18446744073709551615∧m.bL≤18446744073709551615∧m.aS≤18446744073709551615∧m.bB≤18446744073709551615∧m.aK≤18446744073709551615∧m.xN≤18446744073709551615):dH m=dz m:=by
  have z:=kE m
  rw [hk] at z
  have hq:ak 1 113=true:=by decide+kernel
  have hb:ak 1 98=true:=by decide+kernel
  have ht:ak 1 116=false:=by decide+kernel
  have hl:ak 1 108=false:=by decide+kernel
  have hv:ak 1 118=false:=by decide+kernel
  have he:ak 1 101=false:=by decide+kernel
  have hm:ak 1 109=false:=by decide+kernel
  have ha:ak 1 97=false:=by decide+kernel
  have hn:ak 1 110=false:=by decide+kernel
  have hc:ak 1 99=false:=by decide+kernel
  have hp:ak 1 112=false:=by decide+kernel
  have hf:ak 1 102=false:=by decide+kernel
  have hr:ak 1 114=false:=by decide+kernel
  have ho:ak 1 111=true:=by decide+kernel
  have hs:ak 1 115=false:=by decide+kernel
  have hw:ak 1 119=false:=by decide+kernel
  simp only [hq,hb,ht,hl,hv,he,hm,ha,hn,hc,hp,hf,hr,ho,hs,hw,true_or,false_or,true_and,and_true,Bool.false_eq_true] at z
  rw [iW]; unfold d9 dz gQ
  rw [if_neg (show ¬ m.ae≤0 by omega),if_neg (show ¬ m.ae ≥ 15 by omega),Int.toNat_of_nonneg (show 0≤m.ae by omega),hk]
  rw [show dw 1= [113,98,111] from rfl]
  simp only [Int.reduceEq, ↓reduceIte,aQ,decide_true,decide_false,Bool.false_eq_true,reduceCtorEq,i1,i2,i3,i5,ik,gK,decide_eq_true_eq,Bool.and_eq_true]
  refine i4 ?_
  rw [kS]
  simp only [List.mem_cons,List.not_mem_nil,or_false,forall_eq_or_imp,forall_eq,gm,aQ,Int.reduceEq, ↓reduceIte,s4,ng,ni,nk,nu,ny,z,hk,fC,eX,kD,ik,jG,jH,gK,jV,nz,decide_eq_true_eq,true_and,and_true]
  rw [jN (by obtain⟨a,b,c,d,e,f,g,i,j⟩:=hn; refine⟨?_, ?_, ?_, ?_, ?_, ?_, ?_, ?_, ?_⟩ <;> dsimp only <;> omega)]
  simp only [true_and,and_true]
  try constructor <;> intro h <;> simp_all
set_option maxHeartbeats 4000000 in
theorem xK {m:bG} (hk:m.ae=2) (hn:m.bF≤18446744073709551615∧m.aY≤18446744073709551615∧m.bE≤18446744073709551615∧m.bH≤18446744073709551615∧m.bL≤18446744073709551615∧m.aS≤18446744073709551615∧m.bB≤18446744073709551615∧m.aK≤18446744073709551615∧m.xN≤18446744073709551615):dH m=dz m:=by
  have z:=kE m
  rw [hk] at z
  have hq:ak 2 113=true:=by decide+kernel
  have hb:ak 2 98=true:=by decide+kernel
  have ht:ak 2 116=false:=by decide+kernel
  have hl:ak 2 108=false:=by decide+kernel
  have hv:ak 2 118=false:=by decide+kernel
  have he:ak 2 101=false:=by decide+kernel
  have hm:ak 2 109=false:=by decide+kernel
  have ha:ak 2 97=false:=by decide+kernel
  have hn:ak 2 110=false:=by decide+kernel
  have hc:ak 2 99=true:=by decide+kernel
  have hp:ak 2 112=false:=by decide+kernel
  have hf:ak 2 102=false:=by decide+kernel
  have hr:ak 2 114=false:=by decide+kernel
  have ho:ak 2 111=false:=by decide+kernel
  have hs:ak 2 115=true:=by decide+kernel
  have hw:ak 2 119=false:=by decide+kernel
  simp only [hq,hb,ht,hl,hv,he,hm,ha,hn,hc,hp,hf,hr,ho,hs,hw,true_or,false_or,true_and,and_true,Bool.false_eq_true] at z
  rw [iW]; unfold d9 dz gQ
  rw [if_neg (show ¬ m.ae≤0 by omega),if_neg (show ¬ m.ae ≥ 15 by omega),Int.toNat_of_nonneg (show 0≤m.ae by omega),hk]
  rw [show dw 2= [113,98,99,115] from rfl]
  simp only [Int.reduceEq, ↓reduceIte,aQ,decide_true,decide_false,Bool.false_eq_true,reduceCtorEq,i1,i2,i3,i5,ik,gK,decide_eq_true_eq,Bool.and_eq_true]
  refine i4 ?_
  rw [kS]
  simp only [List.mem_cons,List.not_mem_nil,or_false,forall_eq_or_imp,forall_eq,gm,aQ,Int.reduceEq, ↓reduceIte,s4,ng,ni,nk,nu,ny,z,hk,fC,eX,kD,ik,jG,jH,gK,jV,nz,decide_eq_true_eq,true_and,and_true]
  rw [jN (by obtain⟨a,b,c,d,e,f,g,i,j⟩:=hn; refine⟨?_, ?_, ?_, ?_, ?_, ?_, ?_, ?_, ?_⟩ <;> dsimp only <;> omega)]
  simp only [true_and,and_true]
  constructor <;> intro h <;> (by_cases k:m.bq=1 <;> by_cases l:m.bq=2 <;> simp_all)
set_option maxHeartbeats 4000000 in
theorem xL {m:bG} (hk:m.ae=3) (hn:m.bF≤18446744073709551615∧m.aY≤18446744073709551615∧m.bE≤18446744073709551615∧m.bH≤18446744073709551615∧m.bL≤18446744073709551615∧m.aS≤18446744073709551615∧m.bB≤18446744073709551615∧m.aK≤18446744073709551615∧m.xN≤18446744073709551615):dH m=dz m:=by
  have z:=kE m
  rw [hk] at z
  have hq:ak 3 113=false:=by decide+kernel
  have hb:ak 3 98=false:=by decide+kernel
  have ht:ak 3 116=true:=by decide+kernel
  have hl:ak 3 108=true:=by decide+kernel
  have hv:ak 3 118=false:=by decide+kernel
  have he:ak 3 101=true:=by decide+kernel
  have hm:ak 3 109=false:=by decide+kernel
  have ha:ak 3 97=false:=by decide+kernel
  have hn:ak 3 110=false:=by decide+kernel
  have hc:ak 3 99=false:=by decide+kernel
  have hp:ak 3 112=false:=by decide+kernel
  have hf:ak 3 102=false:=by decide+kernel
  have hr:ak 3 114=false:=by decide+kernel
  have ho:ak 3 111=true:=by decide+kernel
  have hs:ak 3 115=false:=by decide+kernel
  have hw:ak 3 119=false:=by decide+kernel
  simp only [hq,hb,ht,hl,hv,he,hm,ha,hn,hc,hp,hf,hr,ho,hs,hw,true_or,false_or,true_and,and_true,Bool.false_eq_true] at z
  rw [iW]; unfold d9 dz gQ
  rw [if_neg (show ¬ m.ae≤0 by omega),if_neg (show ¬ m.ae ≥ 15 by omega),Int.toNat_of_nonneg (show 0≤m.ae by omega),hk]
  rw [show dw 3= [116,108,101,111] from rfl]
  simp only [Int.reduceEq, ↓reduceIte,aQ,decide_true,decide_false,Bool.false_eq_true,reduceCtorEq,i1,i2,i3,i5,ik,gK,decide_eq_true_eq,Bool.and_eq_true]
  refine i4 ?_
  rw [kS]
  simp only [List.mem_cons,List.not_mem_nil,or_false,forall_eq_or_imp,forall_eq,gm,aQ,Int.reduceEq, ↓reduceIte,s4,ng,ni,nk,nu,ny,z,hk,fC,eX,kD,ik,jG,jH,gK,jV,nz,decide_eq_true_eq,true_and,and_true]
  rw [jN (by obtain⟨a,b,c,d,e,f,g,i,j⟩:=hn; refine⟨?_, ?_, ?_, ?_, ?_, ?_, ?_, ?_, ?_⟩ <;> dsimp only <;> omega)]
  simp only [true_and,and_true]
  try constructor <;> intro h <;> simp_all
set_option maxHeartbeats 4000000 in
theorem xM {m:bG} (hk:m.ae=4) (hn:m.bF≤18446744073709551615∧m.aY≤18446744073709551615∧m.bE≤18446744073709551615∧m.bH≤18446744073709551615∧m.bL≤18446744073709551615∧m.aS≤18446744073709551615∧m.bB≤18446744073709551615∧m.aK≤18446744073709551615∧m.xN≤18446744073709551615):dH m=dz m:=by
  have z:=kE m
  rw [hk] at z
  have hq:ak 4 113=false:=by decide+kernel
  have hb:ak 4 98=false:=by decide+kernel
  have ht:ak 4 116=true:=by decide+kernel
  have hl:ak 4 108=false:=by decide+kernel
  have hv:ak 4 118=false:=by decide+kernel
  have he:ak 4 101=false:=by decide+kernel
  have hm:ak 4 109=false:=by decide+kernel
  have ha:ak 4 97=false:=by decide+kernel
  have hn:ak 4 110=false:=by decide+kernel
  have hc:ak 4 99=true:=by decide+kernel
  have hp:ak 4 112=false:=by decide+kernel
  have hf:ak 4 102=false:=by decide+kernel
  have hr:ak 4 114=false:=by decide+kernel
  have ho:ak 4 111=false:=by decide+kernel
  have hs:ak 4 115=true:=by decide+kernel
  have hw:ak 4 119=false:=by decide+kernel
  simp only [hq,hb,ht,hl,hv,he,hm,ha,hn,hc,hp,hf,hr,ho,hs,hw,true_or,false_or,true_and,and_true,Bool.false_eq_true] at z
  rw [iW]; unfold d9 dz gQ
  rw [if_neg (show ¬ m.ae≤0 by omega),if_neg (show ¬ m.ae ≥ 15 by omega),Int.toNat_of_nonneg (show 0≤m.ae by omega),hk]
  rw [show dw 4= [116,99,115] from rfl]
  simp only [Int.reduceEq, ↓reduceIte,aQ,decide_true,decide_false,Bool.false_eq_true,reduceCtorEq,i1,i2,i3,i5,ik,gK,decide_eq_true_eq,Bool.and_eq_true]
  refine i4 ?_
  rw [kS]
  simp only [List.mem_cons,List.not_mem_nil,or_false,forall_eq_or_imp,forall_eq,gm,aQ,Int.reduceEq, ↓reduceIte,s4,ng,ni,nk,nu,ny,z,hk,fC,eX,kD,ik,jG,jH,gK,jV,nz,decide_eq_true_eq,true_and,and_true]
  rw [jN (by obtain⟨a,b,c,d,e,f,g,i,j⟩:=hn; refine⟨?_, ?_, ?_, ?_, ?_, ?_, ?_, ?_, ?_⟩ <;> dsimp only <;> omega)]
  simp only [true_and,and_true]
  constructor <;> intro h <;> (by_cases k:m.bq=3 <;> by_cases l:m.bq=4 <;> by_cases n:m.bq=5 <;> simp_all)
set_option maxHeartbeats 4000000 in
theorem xO {m:bG} (hk:m.ae=5) (hn:m.bF≤18446744073709551615∧m.aY≤18446744073709551615∧m.bE≤18446744073709551615∧m.bH≤18446744073709551615∧m.bL≤18446744073709551615∧m.aS≤18446744073709551615∧m.bB≤18446744073709551615∧m.aK≤18446744073709551615∧m.xN≤18446744073709551615):dH m=dz m:=by
  have z:=kE m
  rw [hk] at z
  have hq:ak 5 113=false:=by decide+kernel
  have hb:ak 5 98=false:=by decide+kernel
  have ht:ak 5 116=true:=by decide+kernel
  have hl:ak 5 108=false:=by decide+kernel
  have hv:ak 5 118=false:=by decide+kernel
  have he:ak 5 101=false:=by decide+kernel
  have hm:ak 5 109=false:=by decide+kernel
  have ha:ak 5 97=false:=by decide+kernel
  have hn:ak 5 110=false:=by decide+kernel
  have hc:ak 5 99=false:=by decide+kernel
  have hp:ak 5 112=false:=by decide+kernel
  have hf:ak 5 102=true:=by decide+kernel
  have hr:ak 5 114=false:=by decide+kernel
  have ho:ak 5 111=false:=by decide+kernel
  have hs:ak 5 115=false:=by decide+kernel
  have hw:ak 5 119=false:=by decide+kernel
  simp only [hq,hb,ht,hl,hv,he,hm,ha,hn,hc,hp,hf,hr,ho,hs,hw,true_or,false_or,true_and,and_true,Bool.false_eq_true] at z
  rw [iW]; unfold d9 dz gQ
  rw [if_neg (show ¬ m.ae≤0 by omega),if_neg (show ¬ m.ae ≥ 15 by omega),Int.toNat_of_nonneg (show 0≤m.ae by omega),hk]
  rw [show dw 5= [116,102] from rfl]
  simp only [Int.reduceEq, ↓reduceIte,aQ,decide_true,decide_false,Bool.false_eq_true,reduceCtorEq,i1,i2,i3,i5,ik,gK,decide_eq_true_eq,Bool.and_eq_true]
  refine i4 ?_
  rw [kS]
  simp only [List.mem_cons,List.not_mem_nil,or_false,forall_eq_or_imp,forall_eq,gm,aQ,Int.reduceEq, ↓reduceIte,s4,ng,ni,nk,nu,ny,z,hk,fC,eX,kD,ik,jG,jH,gK,jV,nz,decide_eq_true_eq,true_and,and_true]
  rw [jN (by obtain⟨a,b,c,d,e,f,g,i,j⟩:=hn; refine⟨?_, ?_, ?_, ?_, ?_, ?_, ?_, ?_, ?_⟩ <;> dsimp only <;> omega)]
  simp only [true_and,and_true]
  try constructor <;> intro h <;> simp_all
set_option maxHeartbeats 4000000 in
theorem xP {m:bG} (hk:m.ae=6) (hn:m.bF≤18446744073709551615∧m.aY≤18446744073709551615∧m.bE≤18446744073709551615∧m.bH≤18446744073709551615∧m.bL≤18446744073709551615∧m.aS≤18446744073709551615∧m.bB≤18446744073709551615∧m.aK≤18446744073709551615∧m.xN≤18446744073709551615):dH m=dz m:=by
  have z:=kE m
  rw [hk] at z
  have hq:ak 6 113=false:=by decide+kernel
  have hb:ak 6 98=false:=by decide+kernel
  have ht:ak 6 116=true:=by decide+kernel
  have hl:ak 6 108=false:=by decide+kernel
  have hv:ak 6 118=false:=by decide+kernel
  have he:ak 6 101=false:=by decide+kernel
  have hm:ak 6 109=false:=by decide+kernel
  have ha:ak 6 97=false:=by decide+kernel
  have hn:ak 6 110=false:=by decide+kernel
  have hc:ak 6 99=false:=by decide+kernel
  have hp:ak 6 112=false:=by decide+kernel
  have hf:ak 6 102=false:=by decide+kernel
  have hr:ak 6 114=false:=by decide+kernel
  have ho:ak 6 111=false:=by decide+kernel
  have hs:ak 6 115=false:=by decide+kernel
  have hw:ak 6 119=false:=by decide+kernel
  simp only [hq,hb,ht,hl,hv,he,hm,ha,hn,hc,hp,hf,hr,ho,hs,hw,true_or,false_or,true_and,and_true,Bool.false_eq_true] at z
  rw [iW]; unfold d9 dz gQ
  rw [if_neg (show ¬ m.ae≤0 by omega),if_neg (show ¬ m.ae ≥ 15 by omega),Int.toNat_of_nonneg (show 0≤m.ae by omega),hk]
  rw [show dw 6= [116] from rfl]
  simp only [Int.reduceEq, ↓reduceIte,aQ,decide_true,decide_false,Bool.false_eq_true,reduceCtorEq,i1,i2,i3,i5,ik,gK,decide_eq_true_eq,Bool.and_eq_true]
  refine i4 ?_
  rw [kS]
  simp only [List.mem_cons,List.not_mem_nil,or_false,forall_eq_or_imp,forall_eq,gm,aQ,Int.reduceEq, ↓reduceIte,s4,ng,ni,nk,nu,ny,z,hk,fC,eX,kD,ik,jG,jH,gK,jV,nz,decide_eq_true_eq,true_and,and_true]
  rw [jN (by obtain⟨a,b,c,d,e,f,g,i,j⟩:=hn; refine⟨?_, ?_, ?_, ?_, ?_, ?_, ?_, ?_, ?_⟩ <;> dsimp only <;> omega)]
  simp only [true_and,and_true]
  try constructor <;> intro h <;> simp_all
set_option maxHeartbeats 4000000 in
theorem xQ {m:bG} (hk:m.ae=7) (hn:m.bF≤18446744073709551615∧m.aY≤18446744073709551615∧m.bE≤18446744073709551615∧m.bH≤18446744073709551615∧m.bL≤18446744073709551615∧m.aS≤18446744073709551615∧m.bB≤18446744073709551615∧m.aK≤18446744073709551615∧m.xN≤18446744073709551615):dH m=dz m:=by
  have z:=kE m
  rw [hk] at z
  have hq:ak 7 113=false:=by decide+kernel
  have hb:ak 7 98=false:=by decide+kernel
  have ht:ak 7 116=true:=by decide+kernel
  have hl:ak 7 108=false:=by decide+kernel
  have hv:ak 7 118=false:=by decide+kernel
  have he:ak 7 101=false:=by decide+kernel
  have hm:ak 7 109=false:=by decide+kernel
  have ha:ak 7 97=false:=by decide+kernel
  have hn:ak 7 110=false:=by decide+kernel
  have hc:ak 7 99=false:=by decide+kernel
  have hp:ak 7 112=false:=by decide+kernel
  have hf:ak 7 102=false:=by decide+kernel
  have hr:ak 7 114=false:=by decide+kernel
  have ho:ak 7 111=false:=by decide+kernel
  have hs:ak 7 115=false:=by decide+kernel
  have hw:ak 7 119=false:=by decide+kernel
  simp only [hq,hb,ht,hl,hv,he,hm,ha,hn,hc,hp,hf,hr,ho,hs,hw,true_or,false_or,true_and,and_true,Bool.false_eq_true] at z
  rw [iW]; unfold d9 dz gQ
  rw [if_neg (show ¬ m.ae≤0 by omega),if_neg (show ¬ m.ae ≥ 15 by omega),Int.toNat_of_nonneg (show 0≤m.ae by omega),hk]
  rw [show dw 7= [116] from rfl]
  simp only [Int.reduceEq, ↓reduceIte,aQ,decide_true,decide_false,Bool.false_eq_true,reduceCtorEq,i1,i2,i3,i5,ik,gK,decide_eq_true_eq,Bool.and_eq_true]
  refine i4 ?_
  rw [kS]
  simp only [List.mem_cons,List.not_mem_nil,or_false,forall_eq_or_imp,forall_eq,gm,aQ,Int.reduceEq, ↓reduceIte,s4,ng,ni,nk,nu,ny,z,hk,fC,eX,kD,ik,jG,jH,gK,jV,nz,decide_eq_true_eq,true_and,and_true]
  rw [jN (by obtain⟨a,b,c,d,e,f,g,i,j⟩:=hn; refine⟨?_, ?_, ?_, ?_, ?_, ?_, ?_, ?_, ?_⟩ <;> dsimp only <;> omega)]
  simp only [true_and,and_true]
  try constructor <;> intro h <;> simp_all
set_option maxHeartbeats 4000000 in
theorem xR {m:bG} (hk:m.ae=8) (hn:m.bF≤18446744073709551615∧m.aY≤18446744073709551615∧m.bE≤18446744073709551615∧m.bH≤18446744073709551615∧m.bL≤18446744073709551615∧m.aS≤18446744073709551615∧m.bB≤18446744073709551615∧m.aK≤18446744073709551615∧m.xN≤18446744073709551615):dH m=dz m:=by
  have z:=kE m
  rw [hk] at z
  have hq:ak 8 113=false:=by decide+kernel
  have hb:ak 8 98=false:=by decide+kernel
  have ht:ak 8 116=false:=by decide+kernel
  have hl:ak 8 108=false:=by decide+kernel
  have hv:ak 8 118=true:=by decide+kernel
  have he:ak 8 101=true:=by decide+kernel
  have hm:ak 8 109=true:=by decide+kernel
  have ha:ak 8 97=false:=by decide+kernel
  have hn:ak 8 110=false:=by decide+kernel
  have hc:ak 8 99=false:=by decide+kernel
  have hp:ak 8 112=false:=by decide+kernel
  have hf:ak 8 102=false:=by decide+kernel
  have hr:ak 8 114=false:=by decide+kernel
  have ho:ak 8 111=false:=by decide+kernel
  have hs:ak 8 115=false:=by decide+kernel
  have hw:ak 8 119=true:=by decide+kernel
  simp only [hq,hb,ht,hl,hv,he,hm,ha,hn,hc,hp,hf,hr,ho,hs,hw,true_or,false_or,true_and,and_true,Bool.false_eq_true] at z
  rw [iW]; unfold d9 dz gQ
  rw [if_neg (show ¬ m.ae≤0 by omega),if_neg (show ¬ m.ae ≥ 15 by omega),Int.toNat_of_nonneg (show 0≤m.ae by omega),hk]
  rw [show dw 8= [118,101,109,119] from rfl]
  simp only [Int.reduceEq, ↓reduceIte,aQ,decide_true,decide_false,Bool.false_eq_true,reduceCtorEq,i1,i2,i3,i5,ik,gK,decide_eq_true_eq,Bool.and_eq_true]
  refine i4 ?_
  rw [kS]
  simp only [List.mem_cons,List.not_mem_nil,or_false,forall_eq_or_imp,forall_eq,gm,aQ,Int.reduceEq, ↓reduceIte,s4,ng,ni,nk,nu,ny,z,hk,fC,eX,kD,ik,jG,jH,gK,jV,nz,decide_eq_true_eq,true_and,and_true]
  rw [jN (by obtain⟨a,b,c,d,e,f,g,i,j⟩:=hn; refine⟨?_, ?_, ?_, ?_, ?_, ?_, ?_, ?_, ?_⟩ <;> dsimp only <;> omega)]
  simp only [true_and,and_true]
  try constructor <;> intro h <;> simp_all
set_option maxHeartbeats 4000000 in
theorem xS {m:bG} (hk:m.ae=9) (hn:m.bF≤18446744073709551615∧m.aY≤18446744073709551615∧m.bE≤18446744073709551615∧m.bH≤18446744073709551615∧m.bL≤18446744073709551615∧m.aS≤18446744073709551615∧m.bB≤18446744073709551615∧m.aK≤18446744073709551615∧m.xN≤18446744073709551615):dH m=dz m:=by
  have z:=kE m
  rw [hk] at z
  have hq:ak 9 113=false:=by decide+kernel
  have hb:ak 9 98=false:=by decide+kernel
  have ht:ak 9 116=false:=by decide+kernel
  have hl:ak 9 108=false:=by decide+kernel
  have hv:ak 9 118=true:=by decide+kernel
  have he:ak 9 101=false:=by decide+kernel
  have hm:ak 9 109=false:=by decide+kernel
  have ha:ak 9 97=false:=by decide+kernel
  have hn:ak 9 110=false:=by decide+kernel
  have hc:ak 9 99=false:=by decide+kernel
  have hp:ak 9 112=false:=by decide+kernel
  have hf:ak 9 102=false:=by decide+kernel
  have hr:ak 9 114=false:=by decide+kernel
  have ho:ak 9 111=false:=by decide+kernel
  have hs:ak 9 115=false:=by decide+kernel
  have hw:ak 9 119=false:=by decide+kernel
  simp only [hq,hb,ht,hl,hv,he,hm,ha,hn,hc,hp,hf,hr,ho,hs,hw,true_or,false_or,true_and,and_true,Bool.false_eq_true] at z
  rw [iW]; unfold d9 dz gQ
  rw [if_neg (show ¬ m.ae≤0 by omega),if_neg (show ¬ m.ae ≥ 15 by omega),Int.toNat_of_nonneg (show 0≤m.ae by omega),hk]
  rw [show dw 9= [118] from rfl]
  simp only [Int.reduceEq, ↓reduceIte,aQ,decide_true,decide_false,Bool.false_eq_true,reduceCtorEq,i1,i2,i3,i5,ik,gK,decide_eq_true_eq,Bool.and_eq_true]
  refine i4 ?_
  rw [kS]
  simp only [List.mem_cons,List.not_mem_nil,or_false,forall_eq_or_imp,forall_eq,gm,aQ,Int.reduceEq, ↓reduceIte,s4,ng,ni,nk,nu,ny,z,hk,fC,eX,kD,ik,jG,jH,gK,jV,nz,decide_eq_true_eq,true_and,and_true]
  rw [jN (by obtain⟨a,b,c,d,e,f,g,i,j⟩:=hn; refine⟨?_, ?_, ?_, ?_, ?_, ?_, ?_, ?_, ?_⟩ <;> dsimp only <;> omega)]
  simp only [true_and,and_true]
  try constructor <;> intro h <;> simp_all
set_option maxHeartbeats 4000000 in
theorem wW {m:bG} (hk:m.ae=10) (hn:m.bF≤18446744073709551615∧m.aY≤18446744073709551615∧m.bE≤18446744073709551615∧m.bH≤18446744073709551615∧m.bL≤18446744073709551615∧m.aS≤18446744073709551615∧m.bB≤18446744073709551615∧m.aK≤18446744073709551615∧m.xN≤18446744073709551615):dH m=dz m:=by
  have z:=kE m
  rw [hk] at z
  have hq:ak 10 113=false:=by decide+kernel
  have hb:ak 10 98=false:=by decide+kernel
  have ht:ak 10 116=false:=by decide+kernel
  have hl:ak 10 108=false:=by decide+kernel
  have hv:ak 10 118=true:=by decide+kernel
  have he:ak 10 101=false:=by decide+kernel
  have hm:ak 10 109=true:=by decide+kernel
  have ha:ak 10 97=false:=by decide+kernel
  have hn:ak 10 110=false:=by decide+kernel
  have hc:ak 10 99=false:=by decide+kernel
  have hp:ak 10 112=true:=by decide+kernel
  have hf:ak 10 102=true:=by decide+kernel
  have hr:ak 10 114=true:=by decide+kernel
  have ho:ak 10 111=false:=by decide+kernel
  have hs:ak 10 115=false:=by decide+kernel
  have hw:ak 10 119=false:=by decide+kernel
  simp only [hq,hb,ht,hl,hv,he,hm,ha,hn,hc,hp,hf,hr,ho,hs,hw,true_or,false_or,true_and,and_true,Bool.false_eq_true] at z
  rw [iW]; unfold d9 dz gQ
  rw [if_neg (show ¬ m.ae≤0 by omega),if_neg (show ¬ m.ae ≥ 15 by omega),Int.toNat_of_nonneg (show 0≤m.ae by omega),hk]
  rw [show dw 10= [118,109,112,102,114] from rfl]
  simp only [Int.reduceEq, ↓reduceIte,aQ,decide_true,decide_false,Bool.false_eq_true,reduceCtorEq,i1,i2,i3,i5,ik,gK,decide_eq_true_eq,Bool.and_eq_true]
  refine i4 ?_
  rw [kS]
  simp only [List.mem_cons,List.not_mem_nil,or_false,forall_eq_or_imp,forall_eq,gm,aQ,Int.reduceEq, ↓reduceIte,s4,ng,ni,nk,nu,ny,z,hk,fC,eX,kD,ik,jG,jH,gK,jV,nz,decide_eq_true_eq,true_and,and_true]
  rw [jN (by obtain⟨a,b,c,d,e,f,g,i,j⟩:=hn; refine⟨?_, ?_, ?_, ?_, ?_, ?_, ?_, ?_, ?_⟩ <;> dsimp only <;> omega)]
  simp only [true_and,and_true]
  try constructor <;> intro h <;> simp_all
set_option maxHeartbeats 4000000 in
theorem wX {m:bG} (hk:m.ae=11) (hn:m.bF≤18446744073709551615∧m.aY≤18446744073709551615∧m.bE≤18446744073709551615∧m.bH≤18446744073709551615∧m.bL≤18446744073709551615∧m.aS≤18446744073709551615∧m.bB≤18446744073709551615∧m.aK≤18446744073709551615∧m.xN≤18446744073709551615):dH m=dz m:=by
  have z:=kE m
  rw [hk] at z
  have hq:ak 11 113=false:=by decide+kernel
  have hb:ak 11 98=false:=by decide+kernel
  have ht:ak 11 116=false:=by decide+kernel
  have hl:ak 11 108=false:=by decide+kernel
  have hv:ak 11 118=false:=by decide+kernel
  have he:ak 11 101=false:=by decide+kernel
  have hm:ak 11 109=true:=by decide+kernel
  have ha:ak 11 97=true:=by decide+kernel
  have hn:ak 11 110=true:=by decide+kernel
  have hc:ak 11 99=false:=by decide+kernel
  have hp:ak 11 112=false:=by decide+kernel
  have hf:ak 11 102=false:=by decide+kernel
  have hr:ak 11 114=true:=by decide+kernel
  have ho:ak 11 111=true:=by decide+kernel
  have hs:ak 11 115=false:=by decide+kernel
  have hw:ak 11 119=false:=by decide+kernel
  simp only [hq,hb,ht,hl,hv,he,hm,ha,hn,hc,hp,hf,hr,ho,hs,hw,true_or,false_or,true_and,and_true,Bool.false_eq_true] at z
  rw [iW]; unfold d9 dz gQ
  rw [if_neg (show ¬ m.ae≤0 by omega),if_neg (show ¬ m.ae ≥ 15 by omega),Int.toNat_of_nonneg (show 0≤m.ae by omega),hk]
  rw [show dw 11= [109,97,110,114,111] from rfl]
  simp only [Int.reduceEq, ↓reduceIte,aQ,decide_true,decide_false,Bool.false_eq_true,reduceCtorEq,i1,i2,i3,i5,ik,gK,decide_eq_true_eq,Bool.and_eq_true]
  refine i4 ?_
  rw [kS]
  simp only [List.mem_cons,List.not_mem_nil,or_false,forall_eq_or_imp,forall_eq,gm,aQ,Int.reduceEq, ↓reduceIte,s4,ng,ni,nk,nu,ny,z,hk,fC,eX,kD,ik,jG,jH,gK,jV,nz,decide_eq_true_eq,true_and,and_true]
  rw [jN (by obtain⟨a,b,c,d,e,f,g,i,j⟩:=hn; refine⟨?_, ?_, ?_, ?_, ?_, ?_, ?_, ?_, ?_⟩ <;> dsimp only <;> omega)]
  simp only [true_and,and_true]
  try constructor <;> intro h <;> simp_all
set_option maxHeartbeats 4000000 in
theorem wY {m:bG} (hk:m.ae=12) (hn:m.bF≤18446744073709551615∧m.aY≤18446744073709551615∧m.bE≤18446744073709551615∧m.bH≤18446744073709551615∧m.bL≤18446744073709551615∧m.aS≤18446744073709551615∧m.bB≤18446744073709551615∧m.aK≤18446744073709551615∧m.xN≤18446744073709551615):dH m=dz m:=by
  have z:=kE m
  rw [hk] at z
  have hq:ak 12 113=false:=by decide+kernel
  have hb:ak 12 98=false:=by decide+kernel
  have ht:ak 12 116=false:=by decide+kernel
  have hl:ak 12 108=false:=by decide+kernel
  have hv:ak 12 118=false:=by decide+kernel
  have he:ak 12 101=false:=by decide+kernel
  have hm:ak 12 109=true:=by decide+kernel
  have ha:ak 12 97=true:=by decide+kernel
  have hn:ak 12 110=true:=by decide+kernel
  have hc:ak 12 99=false:=by decide+kernel
  have hp:ak 12 112=false:=by decide+kernel
  have hf:ak 12 102=false:=by decide+kernel
  have hr:ak 12 114=false:=by decide+kernel
  have ho:ak 12 111=false:=by decide+kernel
  have hs:ak 12 115=false:=by decide+kernel
  have hw:ak 12 119=false:=by decide+kernel
  simp only [hq,hb,ht,hl,hv,he,hm,ha,hn,hc,hp,hf,hr,ho,hs,hw,true_or,false_or,true_and,and_true,Bool.false_eq_true] at z
  rw [iW]; unfold d9 dz gQ
  rw [if_neg (show ¬ m.ae≤0 by omega),if_neg (show ¬ m.ae ≥ 15 by omega),Int.toNat_of_nonneg (show 0≤m.ae by omega),hk]
  rw [show dw 12= [109,97,110] from rfl]
  simp only [Int.reduceEq, ↓reduceIte,aQ,decide_true,decide_false,Bool.false_eq_true,reduceCtorEq,i1,i2,i3,i5,ik,gK,decide_eq_true_eq,Bool.and_eq_true]
  refine i4 ?_
  rw [kS]
  simp only [List.mem_cons,List.not_mem_nil,or_false,forall_eq_or_imp,forall_eq,gm,aQ,Int.reduceEq, ↓reduceIte,s4,ng,ni,nk,nu,ny,z,hk,fC,eX,kD,ik,jG,jH,gK,jV,nz,decide_eq_true_eq,true_and,and_true]
  rw [jN (by obtain⟨a,b,c,d,e,f,g,i,j⟩:=hn; refine⟨?_, ?_, ?_, ?_, ?_, ?_, ?_, ?_, ?_⟩ <;> dsimp only <;> omega)]
  simp only [true_and,and_true]
  try constructor <;> intro h <;> simp_all
set_option maxHeartbeats 4000000 in
theorem wZ {m:bG} (hk:m.ae=13) (hn:m.bF≤18446744073709551615∧m.aY≤18446744073709551615∧m.bE≤18446744073709551615∧m.bH≤18446744073709551615∧m.bL≤18446744073709551615∧m.aS≤18446744073709551615∧m.bB≤18446744073709551615∧m.aK≤18446744073709551615∧m.xN≤18446744073709551615):dH m=dz m:=by
  have z:=kE m
  rw [hk] at z
  have hq:ak 13 113=false:=by decide+kernel
  have hb:ak 13 98=false:=by decide+kernel
  have ht:ak 13 116=false:=by decide+kernel
  have hl:ak 13 108=false:=by decide+kernel
  have hv:ak 13 118=false:=by decide+kernel
  have he:ak 13 101=false:=by decide+kernel
  have hm:ak 13 109=true:=by decide+kernel
  have ha:ak 13 97=false:=by decide+kernel
  have hn:ak 13 110=false:=by decide+kernel
  have hc:ak 13 99=false:=by decide+kernel
  have hp:ak 13 112=false:=by decide+kernel
  have hf:ak 13 102=false:=by decide+kernel
  have hr:ak 13 114=false:=by decide+kernel
  have ho:ak 13 111=false:=by decide+kernel
  have hs:ak 13 115=false:=by decide+kernel
  have hw:ak 13 119=false:=by decide+kernel
  simp only [hq,hb,ht,hl,hv,he,hm,ha,hn,hc,hp,hf,hr,ho,hs,hw,true_or,false_or,true_and,and_true,Bool.false_eq_true] at z
  rw [iW]; unfold d9 dz gQ
  rw [if_neg (show ¬ m.ae≤0 by omega),if_neg (show ¬ m.ae ≥ 15 by omega),Int.toNat_of_nonneg (show 0≤m.ae by omega),hk]
  rw [show dw 13= [109] from rfl]
  simp only [Int.reduceEq, ↓reduceIte,aQ,decide_true,decide_false,Bool.false_eq_true,reduceCtorEq,i1,i2,i3,i5,ik,gK,decide_eq_true_eq,Bool.and_eq_true]
  refine i4 ?_
  rw [kS]
  simp only [List.mem_cons,List.not_mem_nil,or_false,forall_eq_or_imp,forall_eq,gm,aQ,Int.reduceEq, ↓reduceIte,s4,ng,ni,nk,nu,ny,z,hk,fC,eX,kD,ik,jG,jH,gK,jV,nz,decide_eq_true_eq,true_and,and_true]
  rw [jN (by obtain⟨a,b,c,d,e,f,g,i,j⟩:=hn; refine⟨?_, ?_, ?_, ?_, ?_, ?_, ?_, ?_, ?_⟩ <;> dsimp only <;> omega)]
  simp only [true_and,and_true]
  try constructor <;> intro h <;> simp_all
set_option maxHeartbeats 4000000 in
theorem xc {m:bG} (hk:m.ae=14) (hn:m.bF≤18446744073709551615∧m.aY≤18446744073709551615∧m.bE≤18446744073709551615∧m.bH≤18446744073709551615∧m.bL≤18446744073709551615∧m.aS≤18446744073709551615∧m.bB≤18446744073709551615∧m.aK≤18446744073709551615∧m.xN≤18446744073709551615):dH m=dz m:=by
  have z:=kE m
  rw [hk] at z
  have hq:ak 14 113=false:=by decide+kernel
  have hb:ak 14 98=false:=by decide+kernel
  have ht:ak 14 116=false:=by decide+kernel
  have hl:ak 14 108=false:=by decide+kernel
  have hv:ak 14 118=false:=by decide+kernel
  have he:ak 14 101=false:=by decide+kernel
  have hm:ak 14 109=true:=by decide+kernel
  have ha:ak 14 97=false:=by decide+kernel
  have hn:ak 14 110=false:=by decide+kernel
  have hc:ak 14 99=false:=by decide+kernel
  have hp:ak 14 112=false:=by decide+kernel
  have hf:ak 14 102=false:=by decide+kernel
  have hr:ak 14 114=false:=by decide+kernel
  have ho:ak 14 111=false:=by decide+kernel
  have hs:ak 14 115=false:=by decide+kernel
  have hw:ak 14 119=false:=by decide+kernel
  simp only [hq,hb,ht,hl,hv,he,hm,ha,hn,hc,hp,hf,hr,ho,hs,hw,true_or,false_or,true_and,and_true,Bool.false_eq_true] at z
  rw [iW]; unfold d9 dz gQ
  rw [if_neg (show ¬ m.ae≤0 by omega),if_neg (show ¬ m.ae ≥ 15 by omega),Int.toNat_of_nonneg (show 0≤m.ae by omega),hk]
  rw [show dw 14= [109] from rfl]
  simp only [Int.reduceEq, ↓reduceIte,aQ,decide_true,decide_false,Bool.false_eq_true,reduceCtorEq,i1,i2,i3,i5,ik,gK,decide_eq_true_eq,Bool.and_eq_true]
  refine i4 ?_
  rw [kS]
  simp only [List.mem_cons,List.not_mem_nil,or_false,forall_eq_or_imp,forall_eq,gm,aQ,Int.reduceEq, ↓reduceIte,s4,ng,ni,nk,nu,ny,z,hk,fC,eX,kD,ik,jG,jH,gK,jV,nz,decide_eq_true_eq,true_and,and_true]
  rw [jN (by obtain⟨a,b,c,d,e,f,g,i,j⟩:=hn; refine⟨?_, ?_, ?_, ?_, ?_, ?_, ?_, ?_, ?_⟩ <;> dsimp only <;> omega)]
  simp only [true_and,and_true]
  try constructor <;> intro h <;> simp_all
theorem uQ {m:bG} (hn:m.bF≤18446744073709551615∧m.aY≤18446744073709551615∧m.bE≤18446744073709551615∧m.bH≤18446744073709551615∧m.bL≤18446744073709551615∧m.aS≤18446744073709551615∧m.bB≤18446744073709551615∧m.aK≤18446744073709551615∧m.xN≤18446744073709551615):dH m=dz m:=by
  by_cases h:1≤m.ae∧m.ae≤14
  · rcases kinds (k:=m.ae) (by omega) (by omega) with k | k | k | k | k | k | k | k | k | k | k | k | k | k
    · exact xJ k hn
    · exact xK k hn
    · exact xL k hn
    · exact xM k hn
    · exact xO k hn
    · exact xP k hn
    · exact xQ k hn
    · exact xR k hn
    · exact xS k hn
    · exact wW k hn
    · exact wX k hn
    · exact wY k hn
    · exact wZ k hn
    · exact xc k hn
  · exact wV h
end Go.Proofs.YtccjclalngabhaaGreat
