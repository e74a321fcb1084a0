/-
  Which messages may be: the program and the document's answer say the same.
  Conditions: numbers of 64 bits.
-/
import Derived.Test.YtccjclalngabhaaGreatWiM
import Derived.Test.YtccjclalngabhaaGreatWiC
namespace Go.Proofs.YtccjclalngabhaaGreat
set_option maxRecDepth 100000
set_option linter.unusedVariables false
set_option linter.unusedSimpArgs false
def qX (l:List UInt8):Prop:=l.all (fun y=> [113,98,116,108,118,101,109,97,110,99,112,102,114,111,115,119].contains y)=true
theorem Bd {c:Prop} [Decidable c] {a b:List UInt8} (ha:qX a) (hb:qX b):qX (if c then a else b):=by by_cases h:c <;> simp only [h,if_true,if_false] <;> assumption
theorem wo (k:Int):qX (dB k):=by
  unfold dB
  simp only [aT]
  repeat' apply Bd
  all_goals rfl
theorem tL {k:Int} {l:List UInt8} (h:dB k=l) {i:Nat} {x:UInt8} (hx:l[i]? =some x):x.toNat=113∨x.toNat=98∨x.toNat=116∨x.toNat=108∨x.toNat=118∨x.toNat=101∨x.toNat=109∨x.toNat=97∨x.toNat=110∨x.toNat=99∨x.toNat=112∨x.toNat=102∨x.toNat=114∨x.toNat=111∨x.toNat=115∨x.toNat=119:=by
  have a:=List.all_eq_true.1 (wo k) x (h ▸ List.mem_of_getElem? hx)
  simp only [List.contains_eq_mem,List.mem_cons,List.not_mem_nil,or_false,decide_eq_true_eq] at a
  rcases a with rfl | rfl | rfl | rfl | rfl | rfl | rfl | rfl | rfl | rfl | rfl | rfl | rfl | rfl | rfl | rfl <;> decide
theorem wrapN (n:Nat):Int.toNat (IntKind.u64.wrap ((n:Nat):Int))=n % 18446744073709551616:=by
  simp only [IntKind.wrap,IntKind.signed,IntKind.bits]; simp; omega
theorem sD (a b:Nat) (ha:a < 18446744073709551616) (hb:b < 18446744073709551616):aZ a b=a ||| b:=by
  have h:a ||| b < 2 ^ 64:=Nat.or_lt_two_pow (by omega) (by omega)
  have e:(BitVec.ofInt 64 (a:Int) ||| BitVec.ofInt 64 (b:Int)).toNat=a ||| b:=by
    rw [BitVec.toNat_or,BitVec.toNat_ofInt,BitVec.toNat_ofInt]
    rw [show ((a:Int) % ((2 ^ 64:Nat):Int)).toNat=a by omega,show ((b:Int) % ((2 ^ 64:Nat):Int)).toNat=b by omega]
  unfold aZ
  rw [e,wrapN]
  omega
theorem pz {a b:Nat} (ha:a≤18446744073709551615) (hb:b≤18446744073709551615):aZ a b=0↔a=0∧b=0:=by
  rw [sD a b (by omega) (by omega),Nat.or_eq_zero_iff]
theorem s4 {p:Prop} [Decidable p] {r:Bool}:(if p then r else false)=true↔p∧r=true:=by by_cases p <;> simp [*]
theorem jR {m:bE} (hn:m.bG≤18446744073709551615∧m.aY≤18446744073709551615∧m.bF≤18446744073709551615∧m.bH≤18446744073709551615∧m.bL≤18446744073709551615∧m.aV≤18446744073709551615∧m.bB≤18446744073709551615∧m.aK≤18446744073709551615∧m.xN≤18446744073709551615):fe m=true↔((m.bG=0∧m.aY=0∧m.bF=0∧m.bH=0∧m.bL=0∧m.aV=0∧m.bB=0∧m.aK=0∧m.xN=0)∧(m.ax.ls= []∧m.ah.ls= []∧m.ai.ls= [])∧m.aQ=0∧m.bu=0∧m.bO=0∧m.bV=false∧m.aG.aD= []∧m.aG.aH= []):=by
  unfold fe
  rw [s4,s4,s4,s4,s4]
  obtain⟨f,g,i,j,k,l,n,o,p⟩:=hn
  have e:(((aZ (aZ (aZ (aZ (aZ (aZ (aZ (aZ m.bG m.aY) m.bF) m.bH) m.bL) m.aV) m.bB) m.aK) m.xN:Nat):Int)=0)↔m.bG=0∧m.aY=0∧m.bF=0∧m.bH=0∧m.bL=0∧m.aV=0∧m.bB=0∧m.aK=0∧m.xN=0:=by
    rw [show ∀ z:Nat,((z:Int)=0)=(z=0) from fun z=>propext (by omega)]
    rw [pz (iC _ _) (by omega),pz (iC _ _) (by omega),pz (iC _ _) (by omega),pz (iC _ _) (by omega),pz (iC _ _) (by omega),pz (iC _ _) (by omega),pz (iC _ _) (by omega),pz (by omega) (by omega)]
    simp only [and_assoc]
  rw [e]
  have a:(((m.ax.ls.length+m.ah.ls.length)+m.ai.ls.length:Nat):Int)=0↔m.ax.ls= []∧m.ah.ls= []∧m.ai.ls= []:=by
    constructor
    · intro h
      exact⟨List.eq_nil_of_length_eq_zero (by omega),List.eq_nil_of_length_eq_zero (by omega),List.eq_nil_of_length_eq_zero (by omega)⟩
    · rintro ⟨b,c,d⟩
      rw [b,c,d]; rfl
  rw [a]
  cases hf:m.bV <;> simp
theorem s1 {h:Bool} {x:Nat} {r:Bool}:(if(if h=true then false else decide (¬ ((x:Nat):Int)=0))=true then false else r)=true↔(h=true∨x=0)∧r=true:=by
  cases h
  · by_cases e:x=0
    · subst e; simp
    · have: ¬ ((x:Nat):Int)=0:=by omega
      simp [e,this]
  · simp
theorem s2 {e h d:Bool}:(if e=true then(if h=true then true else d) else false)=true↔e=true∧(h=true∨d=true):=by cases e <;> cases h <;> simp
theorem s3 {p:Prop} [Decidable p] {h d:Bool}:(if p then(if h=true then true else d) else false)=true↔p∧(h=true∨d=true):=by by_cases p <;> cases h <;> simp [*]
theorem kL (m:bE):nk m=true↔(av m.ae 113=true∨m.bG=0)∧(av m.ae 98=true∨m.aY=0)∧(av m.ae 116=true∨m.bF=0)∧(av m.ae 108=true∨m.bH=0)∧(av m.ae 118=true∨m.bL=0)∧(av m.ae 101=true∨m.aV=0)∧(av m.ae 109=true∨m.bB=0)∧(av m.ae 97=true∨m.aK=0)∧(av m.ae 110=true∨m.xN=0)∧m.aQ=0∧(av m.ae 99=true∨m.bu=0)∧(av m.ae 112=true∨m.bO=0)∧(av m.ae 102=true∨m.bV=false)∧(av m.ae 114=true∨(m.aG.aD= []∧m.aG.aH= []))∧(av m.ae 111=true∨m.ax.ls= [])∧(av m.ae 115=true∨m.ah.ls= [])∧(av m.ae 119=true∨m.ai.ls= []):=by
  unfold nk
  simp only [aT]
  rw [s1,s1,s1,s1,s1,s1,s1,s1,s1,s2,s2,s2,s2,s2,s2,s3]
  have a:∀ {α:Type} (l:List α),decide (((List.length l:Nat):Int)=0)=true↔l= []:=fun l=>by
    rw [decide_eq_true_eq]
    constructor
    · intro h; exact List.eq_nil_of_length_eq_zero (by omega)
    · rintro rfl; rfl
  simp only [a,decide_eq_true_eq,Bool.not_eq_true',and_assoc]
theorem i1 {a b:Prop} [Decidable a] [Decidable b]:(if a then(if b then(0:Int) else 180) else 180)=if a∧b then 0 else 180:=by by_cases a <;> simp [*]
theorem i2 {a p q:Prop} [Decidable a] [Decidable p] [Decidable q]:(if a then(if p then(0:Int) else 180) else(if q then 0 else 180))=if(a∧p)∨(¬ a∧q) then 0 else 180:=by by_cases a <;> simp [*]
theorem i3 {a:Prop} [Decidable a]:(if a then(180:Int) else 0)=if ¬ a then 0 else 180:=by by_cases a <;> simp [*]
theorem i4 {a b:Prop} [Decidable a] [Decidable b] (h:a↔b):(if a then(0:Int) else 180)=if b then 0 else 180:=by by_cases b <;> simp [*]
theorem i5 {a b:Prop} [Decidable a] [Decidable b]:(if a then(180:Int) else(if b then 0 else 180))=if ¬ a∧b then 0 else 180:=by by_cases a <;> simp [*]
theorem nG (n:Int):bQ 0 n=true↔n=0:=by unfold bQ; simp
theorem nH (n:Int):bQ 1 n=true↔1≤n∧n≤4:=by unfold bQ; simp
theorem nI (n:Int):bQ 2 n=true↔11≤n∧n≤14:=by
  unfold bQ
  simp
  intro _
  omega
theorem nJ (n:Int):iU n=true↔1≤n∧n≤4:=by unfold iU; simp
theorem nK (n:Int):kz n=true↔11≤n∧n≤14:=by unfold kz; simp
theorem nL (l:List aB):∀ (b:Bool),fG l b=true↔b=true∧∀ x ∈ l,jQ x=true:=by
  induction l with
  | nil=>intro b; simp [fG]
  | cons y q ih=>
    intro b
    cases b
    · have:=ih false
      simp only [fG,aT] at this ⊢
      simp [this]
    · simp only [fG,aT]
      have:=ih (jQ y)
      simp [this]
theorem jL:∀ l:List aB,jJ l=true↔jo l=0∧∀ x ∈ l,jQ x=true
  | []=>by simp [jJ,dW,jo,gz,lp]
  | x::q=>by
    have ih:=jL q
    unfold jJ jo at ih ⊢
    have w:=wN x
    by_cases f:lM x=true
    · by_cases e:dO x=0
      · have c:fZ x=0:=by unfold fZ; simp [aT,f,e]
        simp only [dW,gz,aT,if_pos c,if_pos e, ← pV]
        rw [ih]
        simp [← w,f]
      · have c: ¬ fZ x=0:=by unfold fZ; simp [aT,f,e]
        simp only [dW,gz,aT,if_neg c,if_neg e, ← pV,lp]
        simp [e]
    · have c: ¬ fZ x=0:=by unfold fZ; simp [aT,f]
      simp only [dW,aT,if_neg c,lp]
      simp [← w,f]
theorem xy {m:bE} (h: ¬ (1≤m.ae∧m.ae≤14)):dJ m=dC m:=by
  have f:dB m.ae= []:=by
    unfold dB
    simp only [aT]
    rw [if_neg (by omega),if_neg (by omega),if_neg (by omega),if_neg (by omega),if_neg (by omega),if_neg (by rw [if_neg (by omega)]; intro q; have:=of_decide_eq_true q; omega),if_neg (by omega),if_neg (by omega),if_neg (by omega),if_neg (by omega),if_neg (by omega),if_neg (by omega),if_neg (by omega)]
  have R:dC m=180:=by
    unfold dC
    rw [aT,f]
    exact if_pos rfl
  rw [R]
  rw [jd]; unfold ed
  by_cases a:m.ae≤0
  · rw [if_pos a]
  · rw [if_neg a,if_pos (by omega)]
set_option maxHeartbeats 4000000 in
theorem yc {m:bE} (hk:m.ae=1) (hn:m.bG≤18446744073709551615∧m.aY≤18446744073709551615∧m.bF≤18446744073709551615∧m.bH≤18446744073709551615∧m.bL≤18446744073709551615∧m.aV≤18446744073709551615∧m.bB≤18446744073709551615∧m.aK≤18446744073709551615∧m.xN≤18446744073709551615):dJ m=dC m:=by
  have z:=kL m
  rw [hk] at z
  have hq:av 1 113=true:=by decide+kernel
  have hb:av 1 98=true:=by decide+kernel
  have ht:av 1 116=false:=by decide+kernel
  have hl:av 1 108=false:=by decide+kernel
  have hv:av 1 118=false:=by decide+kernel
  have he:av 1 101=false:=by decide+kernel
  have hm:av 1 109=false:=by decide+kernel
  have ha:av 1 97=false:=by decide+kernel
  have hn:av 1 110=false:=by decide+kernel
  have hc:av 1 99=false:=by decide+kernel
  have hp:av 1 112=false:=by decide+kernel
  have hf:av 1 102=false:=by decide+kernel
  have hr:av 1 114=false:=by decide+kernel
  have ho:av 1 111=true:=by decide+kernel
  have hs:av 1 115=false:=by decide+kernel
  have hw:av 1 119=false:=by decide+kernel
  simp only [hq,hb,ht,hl,hv,he,hm,ha,hn,hc,hp,hf,hr,ho,hs,hw,true_or,false_or,true_and,and_true,Bool.false_eq_true] at z
  rw [jd]; unfold ed dC gT
  rw [if_neg (show ¬ m.ae≤0 by omega),if_neg (show ¬ m.ae ≥ 15 by omega),Int.toNat_of_nonneg (show 0≤m.ae by omega),hk]
  rw [show dB 1= [113,98,111] from rfl]
  simp only [Int.reduceEq, ↓reduceIte,aT,decide_true,decide_false,Bool.false_eq_true,reduceCtorEq,i1,i2,i3,i5,iA,gL,decide_eq_true_eq,Bool.and_eq_true]
  refine i4 ?_
  rw [kX]
  simp only [List.mem_cons,List.not_mem_nil,or_false,forall_eq_or_imp,forall_eq,gp,aT,Int.reduceEq, ↓reduceIte,s4,nG,nH,nI,nJ,nK,z,hk,fE,eX,kJ,iA,jK,jL,gL,j3,nL,decide_eq_true_eq,true_and,and_true]
  rw [jR (by obtain⟨a,b,c,d,e,f,g,i,j⟩:=hn; refine⟨?_, ?_, ?_, ?_, ?_, ?_, ?_, ?_, ?_⟩ <;> dsimp only <;> omega)]
  simp only [true_and,and_true]
  try constructor <;> intro h <;> simp_all
set_option maxHeartbeats 4000000 in
theorem yf {m:bE} (hk:m.ae=2) (hn:m.bG≤18446744073709551615∧m.aY≤18446744073709551615∧m.bF≤18446744073709551615∧m.bH≤18446744073709551615∧m.bL≤18446744073709551615∧m.aV≤18446744073709551615∧m.bB≤18446744073709551615∧m.aK≤18446744073709551615∧m.xN≤18446744073709551615):dJ m=dC m:=by
  have z:=kL m
  rw [hk] at z
  have hq:av 2 113=true:=by decide+kernel
  have hb:av 2 98=true:=by decide+kernel
  have ht:av 2 116=false:=by decide+kernel
  have hl:av 2 108=false:=by decide+kernel
  have hv:av 2 118=false:=by decide+kernel
  have he:av 2 101=false:=by decide+kernel
  have hm:av 2 109=false:=by decide+kernel
  have ha:av 2 97=false:=by decide+kernel
  have hn:av 2 110=false:=by decide+kernel
  have hc:av 2 99=true:=by decide+kernel
  have hp:av 2 112=false:=by decide+kernel
  have hf:av 2 102=false:=by decide+kernel
  have hr:av 2 114=false:=by decide+kernel
  have ho:av 2 111=false:=by decide+kernel
  have hs:av 2 115=true:=by decide+kernel
  have hw:av 2 119=false:=by decide+kernel
  simp only [hq,hb,ht,hl,hv,he,hm,ha,hn,hc,hp,hf,hr,ho,hs,hw,true_or,false_or,true_and,and_true,Bool.false_eq_true] at z
  rw [jd]; unfold ed dC gT
  rw [if_neg (show ¬ m.ae≤0 by omega),if_neg (show ¬ m.ae ≥ 15 by omega),Int.toNat_of_nonneg (show 0≤m.ae by omega),hk]
  rw [show dB 2= [113,98,99,115] from rfl]
  simp only [Int.reduceEq, ↓reduceIte,aT,decide_true,decide_false,Bool.false_eq_true,reduceCtorEq,i1,i2,i3,i5,iA,gL,decide_eq_true_eq,Bool.and_eq_true]
  refine i4 ?_
  rw [kX]
  simp only [List.mem_cons,List.not_mem_nil,or_false,forall_eq_or_imp,forall_eq,gp,aT,Int.reduceEq, ↓reduceIte,s4,nG,nH,nI,nJ,nK,z,hk,fE,eX,kJ,iA,jK,jL,gL,j3,nL,decide_eq_true_eq,true_and,and_true]
  rw [jR (by obtain⟨a,b,c,d,e,f,g,i,j⟩:=hn; refine⟨?_, ?_, ?_, ?_, ?_, ?_, ?_, ?_, ?_⟩ <;> dsimp only <;> omega)]
  simp only [true_and,and_true]
  constructor <;> intro h <;> (by_cases k:m.bu=1 <;> by_cases l:m.bu=2 <;> simp_all)
set_option maxHeartbeats 4000000 in
theorem yg {m:bE} (hk:m.ae=3) (hn:m.bG≤18446744073709551615∧m.aY≤18446744073709551615∧m.bF≤18446744073709551615∧m.bH≤18446744073709551615∧m.bL≤18446744073709551615∧m.aV≤18446744073709551615∧m.bB≤18446744073709551615∧m.aK≤18446744073709551615∧m.xN≤18446744073709551615):dJ m=dC m:=by
  have z:=kL m
  rw [hk] at z
  have hq:av 3 113=false:=by decide+kernel
  have hb:av 3 98=false:=by decide+kernel
  have ht:av 3 116=true:=by decide+kernel
  have hl:av 3 108=true:=by decide+kernel
  have hv:av 3 118=false:=by decide+kernel
  have he:av 3 101=true:=by decide+kernel
  have hm:av 3 109=false:=by decide+kernel
  have ha:av 3 97=false:=by decide+kernel
  have hn:av 3 110=false:=by decide+kernel
  have hc:av 3 99=false:=by decide+kernel
  have hp:av 3 112=false:=by decide+kernel
  have hf:av 3 102=false:=by decide+kernel
  have hr:av 3 114=false:=by decide+kernel
  have ho:av 3 111=true:=by decide+kernel
  have hs:av 3 115=false:=by decide+kernel
  have hw:av 3 119=false:=by decide+kernel
  simp only [hq,hb,ht,hl,hv,he,hm,ha,hn,hc,hp,hf,hr,ho,hs,hw,true_or,false_or,true_and,and_true,Bool.false_eq_true] at z
  rw [jd]; unfold ed dC gT
  rw [if_neg (show ¬ m.ae≤0 by omega),if_neg (show ¬ m.ae ≥ 15 by omega),Int.toNat_of_nonneg (show 0≤m.ae by omega),hk]
  rw [show dB 3= [116,108,101,111] from rfl]
  simp only [Int.reduceEq, ↓reduceIte,aT,decide_true,decide_false,Bool.false_eq_true,reduceCtorEq,i1,i2,i3,i5,iA,gL,decide_eq_true_eq,Bool.and_eq_true]
  refine i4 ?_
  rw [kX]
  simp only [List.mem_cons,List.not_mem_nil,or_false,forall_eq_or_imp,forall_eq,gp,aT,Int.reduceEq, ↓reduceIte,s4,nG,nH,nI,nJ,nK,z,hk,fE,eX,kJ,iA,jK,jL,gL,j3,nL,decide_eq_true_eq,true_and,and_true]
  rw [jR (by obtain⟨a,b,c,d,e,f,g,i,j⟩:=hn; refine⟨?_, ?_, ?_, ?_, ?_, ?_, ?_, ?_, ?_⟩ <;> dsimp only <;> omega)]
  simp only [true_and,and_true]
  try constructor <;> intro h <;> simp_all
set_option maxHeartbeats 4000000 in
theorem yh {m:bE} (hk:m.ae=4) (hn:m.bG≤18446744073709551615∧m.aY≤18446744073709551615∧m.bF≤18446744073709551615∧m.bH≤18446744073709551615∧m.bL≤18446744073709551615∧m.aV≤18446744073709551615∧m.bB≤18446744073709551615∧m.aK≤18446744073709551615∧m.xN≤18446744073709551615):dJ m=dC m:=by
  have z:=kL m
  rw [hk] at z
  have hq:av 4 113=false:=by decide+kernel
  have hb:av 4 98=false:=by decide+kernel
  have ht:av 4 116=true:=by decide+kernel
  have hl:av 4 108=false:=by decide+kernel
  have hv:av 4 118=false:=by decide+kernel
  have he:av 4 101=false:=by decide+kernel
  have hm:av 4 109=false:=by decide+kernel
  have ha:av 4 97=false:=by decide+kernel
  have hn:av 4 110=false:=by decide+kernel
  have hc:av 4 99=true:=by decide+kernel
  have hp:av 4 112=false:=by decide+kernel
  have hf:av 4 102=false:=by decide+kernel
  have hr:av 4 114=false:=by decide+kernel
  have ho:av 4 111=false:=by decide+kernel
  have hs:av 4 115=true:=by decide+kernel
  have hw:av 4 119=false:=by decide+kernel
  simp only [hq,hb,ht,hl,hv,he,hm,ha,hn,hc,hp,hf,hr,ho,hs,hw,true_or,false_or,true_and,and_true,Bool.false_eq_true] at z
  rw [jd]; unfold ed dC gT
  rw [if_neg (show ¬ m.ae≤0 by omega),if_neg (show ¬ m.ae ≥ 15 by omega),Int.toNat_of_nonneg (show 0≤m.ae by omega),hk]
  rw [show dB 4= [116,99,115] from rfl]
  simp only [Int.reduceEq, ↓reduceIte,aT,decide_true,decide_false,Bool.false_eq_true,reduceCtorEq,i1,i2,i3,i5,iA,gL,decide_eq_true_eq,Bool.and_eq_true]
  refine i4 ?_
  rw [kX]
  simp only [List.mem_cons,List.not_mem_nil,or_false,forall_eq_or_imp,forall_eq,gp,aT,Int.reduceEq, ↓reduceIte,s4,nG,nH,nI,nJ,nK,z,hk,fE,eX,kJ,iA,jK,jL,gL,j3,nL,decide_eq_true_eq,true_and,and_true]
  rw [jR (by obtain⟨a,b,c,d,e,f,g,i,j⟩:=hn; refine⟨?_, ?_, ?_, ?_, ?_, ?_, ?_, ?_, ?_⟩ <;> dsimp only <;> omega)]
  simp only [true_and,and_true]
  constructor <;> intro h <;> (by_cases k:m.bu=3 <;> by_cases l:m.bu=4 <;> by_cases n:m.bu=5 <;> simp_all)
set_option maxHeartbeats 4000000 in
theorem yj {m:bE} (hk:m.ae=5) (hn:m.bG≤18446744073709551615∧m.aY≤18446744073709551615∧m.bF≤18446744073709551615∧m.bH≤18446744073709551615∧m.bL≤18446744073709551615∧m.aV≤18446744073709551615∧m.bB≤18446744073709551615∧m.aK≤18446744073709551615∧m.xN≤18446744073709551615):dJ m=dC m:=by
  have z:=kL m
  rw [hk] at z
  have hq:av 5 113=false:=by decide+kernel
  have hb:av 5 98=false:=by decide+kernel
  have ht:av 5 116=true:=by decide+kernel
  have hl:av 5 108=false:=by decide+kernel
  have hv:av 5 118=false:=by decide+kernel
  have he:av 5 101=false:=by decide+kernel
  have hm:av 5 109=false:=by decide+kernel
  have ha:av 5 97=false:=by decide+kernel
  have hn:av 5 110=false:=by decide+kernel
  have hc:av 5 99=false:=by decide+kernel
  have hp:av 5 112=false:=by decide+kernel
  have hf:av 5 102=true:=by decide+kernel
  have hr:av 5 114=false:=by decide+kernel
  have ho:av 5 111=false:=by decide+kernel
  have hs:av 5 115=false:=by decide+kernel
  have hw:av 5 119=false:=by decide+kernel
  simp only [hq,hb,ht,hl,hv,he,hm,ha,hn,hc,hp,hf,hr,ho,hs,hw,true_or,false_or,true_and,and_true,Bool.false_eq_true] at z
  rw [jd]; unfold ed dC gT
  rw [if_neg (show ¬ m.ae≤0 by omega),if_neg (show ¬ m.ae ≥ 15 by omega),Int.toNat_of_nonneg (show 0≤m.ae by omega),hk]
  rw [show dB 5= [116,102] from rfl]
  simp only [Int.reduceEq, ↓reduceIte,aT,decide_true,decide_false,Bool.false_eq_true,reduceCtorEq,i1,i2,i3,i5,iA,gL,decide_eq_true_eq,Bool.and_eq_true]
  refine i4 ?_
  rw [kX]
  simp only [List.mem_cons,List.not_mem_nil,or_false,forall_eq_or_imp,forall_eq,gp,aT,Int.reduceEq, ↓reduceIte,s4,nG,nH,nI,nJ,nK,z,hk,fE,eX,kJ,iA,jK,jL,gL,j3,nL,decide_eq_true_eq,true_and,and_true]
  rw [jR (by obtain⟨a,b,c,d,e,f,g,i,j⟩:=hn; refine⟨?_, ?_, ?_, ?_, ?_, ?_, ?_, ?_, ?_⟩ <;> dsimp only <;> omega)]
  simp only [true_and,and_true]
  try constructor <;> intro h <;> simp_all
set_option maxHeartbeats 4000000 in
theorem yl {m:bE} (hk:m.ae=6) (hn:m.bG≤18446744073709551615∧m.aY≤18446744073709551615∧m.bF≤18446744073709551615∧m.bH≤18446744073709551615∧m.bL≤18446744073709551615∧m.aV≤18446744073709551615∧m.bB≤18446744073709551615∧m.aK≤18446744073709551615∧m.xN≤18446744073709551615):dJ m=dC m:=by
  have z:=kL m
  rw [hk] at z
  have hq:av 6 113=false:=by decide+kernel
  have hb:av 6 98=false:=by decide+kernel
  have ht:av 6 116=true:=by decide+kernel
  have hl:av 6 108=false:=by decide+kernel
  have hv:av 6 118=false:=by decide+kernel
  have he:av 6 101=false:=by decide+kernel
  have hm:av 6 109=false:=by decide+kernel
  have ha:av 6 97=false:=by decide+kernel
  have hn:av 6 110=false:=by decide+kernel
  have hc:av 6 99=false:=by decide+kernel
  have hp:av 6 112=false:=by decide+kernel
  have hf:av 6 102=false:=by decide+kernel
  have hr:av 6 114=false:=by decide+kernel
  have ho:av 6 111=false:=by decide+kernel
  have hs:av 6 115=false:=by decide+kernel
  have hw:av 6 119=false:=by decide+kernel
  simp only [hq,hb,ht,hl,hv,he,hm,ha,hn,hc,hp,hf,hr,ho,hs,hw,true_or,false_or,true_and,and_true,Bool.false_eq_true] at z
  rw [jd]; unfold ed dC gT
  rw [if_neg (show ¬ m.ae≤0 by omega),if_neg (show ¬ m.ae ≥ 15 by omega),Int.toNat_of_nonneg (show 0≤m.ae by omega),hk]
  rw [show dB 6= [116] from rfl]
  simp only [Int.reduceEq, ↓reduceIte,aT,decide_true,decide_false,Bool.false_eq_true,reduceCtorEq,i1,i2,i3,i5,iA,gL,decide_eq_true_eq,Bool.and_eq_true]
  refine i4 ?_
  rw [kX]
  simp only [List.mem_cons,List.not_mem_nil,or_false,forall_eq_or_imp,forall_eq,gp,aT,Int.reduceEq, ↓reduceIte,s4,nG,nH,nI,nJ,nK,z,hk,fE,eX,kJ,iA,jK,jL,gL,j3,nL,decide_eq_true_eq,true_and,and_true]
  rw [jR (by obtain⟨a,b,c,d,e,f,g,i,j⟩:=hn; refine⟨?_, ?_, ?_, ?_, ?_, ?_, ?_, ?_, ?_⟩ <;> dsimp only <;> omega)]
  simp only [true_and,and_true]
  try constructor <;> intro h <;> simp_all
set_option maxHeartbeats 4000000 in
theorem ym {m:bE} (hk:m.ae=7) (hn:m.bG≤18446744073709551615∧m.aY≤18446744073709551615∧m.bF≤18446744073709551615∧m.bH≤18446744073709551615∧m.bL≤18446744073709551615∧m.aV≤18446744073709551615∧m.bB≤18446744073709551615∧m.aK≤18446744073709551615∧m.xN≤18446744073709551615):dJ m=dC m:=by
  have z:=kL m
  rw [hk] at z
  have hq:av 7 113=false:=by decide+kernel
  have hb:av 7 98=false:=by decide+kernel
  have ht:av 7 116=true:=by decide+kernel
  have hl:av 7 108=false:=by decide+kernel
  have hv:av 7 118=false:=by decide+kernel
  have he:av 7 101=false:=by decide+kernel
  have hm:av 7 109=false:=by decide+kernel
  have ha:av 7 97=false:=by decide+kernel
  have hn:av 7 110=false:=by decide+kernel
  have hc:av 7 99=false:=by decide+kernel
  have hp:av 7 112=false:=by decide+kernel
  have hf:av 7 102=false:=by decide+kernel
  have hr:av 7 114=false:=by decide+kernel
  have ho:av 7 111=false:=by decide+kernel
  have hs:av 7 115=false:=by decide+kernel
  have hw:av 7 119=false:=by decide+kernel
  simp only [hq,hb,ht,hl,hv,he,hm,ha,hn,hc,hp,hf,hr,ho,hs,hw,true_or,false_or,true_and,and_true,Bool.false_eq_true] at z
  rw [jd]; unfold ed dC gT
  rw [if_neg (show ¬ m.ae≤0 by omega),if_neg (show ¬ m.ae ≥ 15 by omega),Int.toNat_of_nonneg (show 0≤m.ae by omega),hk]
  rw [show dB 7= [116] from rfl]
  simp only [Int.reduceEq, ↓reduceIte,aT,decide_true,decide_false,Bool.false_eq_true,reduceCtorEq,i1,i2,i3,i5,iA,gL,decide_eq_true_eq,Bool.and_eq_true]
  refine i4 ?_
  rw [kX]
  simp only [List.mem_cons,List.not_mem_nil,or_false,forall_eq_or_imp,forall_eq,gp,aT,Int.reduceEq, ↓reduceIte,s4,nG,nH,nI,nJ,nK,z,hk,fE,eX,kJ,iA,jK,jL,gL,j3,nL,decide_eq_true_eq,true_and,and_true]
  rw [jR (by obtain⟨a,b,c,d,e,f,g,i,j⟩:=hn; refine⟨?_, ?_, ?_, ?_, ?_, ?_, ?_, ?_, ?_⟩ <;> dsimp only <;> omega)]
  simp only [true_and,and_true]
  try constructor <;> intro h <;> simp_all
set_option maxHeartbeats 4000000 in
theorem yn {m:bE} (hk:m.ae=8) (hn:m.bG≤18446744073709551615∧m.aY≤18446744073709551615∧m.bF≤18446744073709551615∧m.bH≤18446744073709551615∧m.bL≤18446744073709551615∧m.aV≤18446744073709551615∧m.bB≤18446744073709551615∧m.aK≤18446744073709551615∧m.xN≤18446744073709551615):dJ m=dC m:=by
  have z:=kL m
  rw [hk] at z
  have hq:av 8 113=false:=by decide+kernel
  have hb:av 8 98=false:=by decide+kernel
  have ht:av 8 116=false:=by decide+kernel
  have hl:av 8 108=false:=by decide+kernel
  have hv:av 8 118=true:=by decide+kernel
  have he:av 8 101=true:=by decide+kernel
  have hm:av 8 109=true:=by decide+kernel
  have ha:av 8 97=false:=by decide+kernel
  have hn:av 8 110=false:=by decide+kernel
  have hc:av 8 99=false:=by decide+kernel
  have hp:av 8 112=false:=by decide+kernel
  have hf:av 8 102=false:=by decide+kernel
  have hr:av 8 114=false:=by decide+kernel
  have ho:av 8 111=false:=by decide+kernel
  have hs:av 8 115=false:=by decide+kernel
  have hw:av 8 119=true:=by decide+kernel
  simp only [hq,hb,ht,hl,hv,he,hm,ha,hn,hc,hp,hf,hr,ho,hs,hw,true_or,false_or,true_and,and_true,Bool.false_eq_true] at z
  rw [jd]; unfold ed dC gT
  rw [if_neg (show ¬ m.ae≤0 by omega),if_neg (show ¬ m.ae ≥ 15 by omega),Int.toNat_of_nonneg (show 0≤m.ae by omega),hk]
  rw [show dB 8= [118,101,109,119] from rfl]
  simp only [Int.reduceEq, ↓reduceIte,aT,decide_true,decide_false,Bool.false_eq_true,reduceCtorEq,i1,i2,i3,i5,iA,gL,decide_eq_true_eq,Bool.and_eq_true]
  refine i4 ?_
  rw [kX]
  simp only [List.mem_cons,List.not_mem_nil,or_false,forall_eq_or_imp,forall_eq,gp,aT,Int.reduceEq, ↓reduceIte,s4,nG,nH,nI,nJ,nK,z,hk,fE,eX,kJ,iA,jK,jL,gL,j3,nL,decide_eq_true_eq,true_and,and_true]
  rw [jR (by obtain⟨a,b,c,d,e,f,g,i,j⟩:=hn; refine⟨?_, ?_, ?_, ?_, ?_, ?_, ?_, ?_, ?_⟩ <;> dsimp only <;> omega)]
  simp only [true_and,and_true]
  try constructor <;> intro h <;> simp_all
set_option maxHeartbeats 4000000 in
theorem yu {m:bE} (hk:m.ae=9) (hn:m.bG≤18446744073709551615∧m.aY≤18446744073709551615∧m.bF≤18446744073709551615∧m.bH≤18446744073709551615∧m.bL≤18446744073709551615∧m.aV≤18446744073709551615∧m.bB≤18446744073709551615∧m.aK≤18446744073709551615∧m.xN≤18446744073709551615):dJ m=dC m:=by
  have z:=kL m
  rw [hk] at z
  have hq:av 9 113=false:=by decide+kernel
  have hb:av 9 98=false:=by decide+kernel
  have ht:av 9 116=false:=by decide+kernel
  have hl:av 9 108=false:=by decide+kernel
  have hv:av 9 118=true:=by decide+kernel
  have he:av 9 101=false:=by decide+kernel
  have hm:av 9 109=false:=by decide+kernel
  have ha:av 9 97=false:=by decide+kernel
  have hn:av 9 110=false:=by decide+kernel
  have hc:av 9 99=false:=by decide+kernel
  have hp:av 9 112=false:=by decide+kernel
  have hf:av 9 102=false:=by decide+kernel
  have hr:av 9 114=false:=by decide+kernel
  have ho:av 9 111=false:=by decide+kernel
  have hs:av 9 115=false:=by decide+kernel
  have hw:av 9 119=false:=by decide+kernel
  simp only [hq,hb,ht,hl,hv,he,hm,ha,hn,hc,hp,hf,hr,ho,hs,hw,true_or,false_or,true_and,and_true,Bool.false_eq_true] at z
  rw [jd]; unfold ed dC gT
  rw [if_neg (show ¬ m.ae≤0 by omega),if_neg (show ¬ m.ae ≥ 15 by omega),Int.toNat_of_nonneg (show 0≤m.ae by omega),hk]
  rw [show dB 9= [118] from rfl]
  simp only [Int.reduceEq, ↓reduceIte,aT,decide_true,decide_false,Bool.false_eq_true,reduceCtorEq,i1,i2,i3,i5,iA,gL,decide_eq_true_eq,Bool.and_eq_true]
  refine i4 ?_
  rw [kX]
  simp only [List.mem_cons,List.not_mem_nil,or_false,forall_eq_or_imp,forall_eq,gp,aT,Int.reduceEq, ↓reduceIte,s4,nG,nH,nI,nJ,nK,z,hk,fE,eX,kJ,iA,jK,jL,gL,j3,nL,decide_eq_true_eq,true_and,and_true]
  rw [jR (by obtain⟨a,b,c,d,e,f,g,i,j⟩:=hn; refine⟨?_, ?_, ?_, ?_, ?_, ?_, ?_, ?_, ?_⟩ <;> dsimp only <;> omega)]
  simp only [true_and,and_true]
  try constructor <;> intro h <;> simp_all
set_option maxHeartbeats 4000000 in
theorem xz {m:bE} (hk:m.ae=10) (hn:m.bG≤18446744073709551615∧m.aY≤18446744073709551615∧m.bF≤18446744073709551615∧m.bH≤18446744073709551615∧m.bL≤18446744073709551615∧m.aV≤18446744073709551615∧m.bB≤18446744073709551615∧m.aK≤18446744073709551615∧m.xN≤18446744073709551615):dJ m=dC m:=by
  have z:=kL m
  rw [hk] at z
  have hq:av 10 113=false:=by decide+kernel
  have hb:av 10 98=false:=by decide+kernel
  have ht:av 10 116=false:=by decide+kernel
  have hl:av 10 108=false:=by decide+kernel
  have hv:av 10 118=true:=by decide+kernel
  have he:av 10 101=false:=by decide+kernel
  have hm:av 10 109=true:=by decide+kernel
  have ha:av 10 97=false:=by decide+kernel
  have hn:av 10 110=false:=by decide+kernel
  have hc:av 10 99=false:=by decide+kernel
  have hp:av 10 112=true:=by decide+kernel
  have hf:av 10 102=true:=by decide+kernel
  have hr:av 10 114=true:=by decide+kernel
  have ho:av 10 111=false:=by decide+kernel
  have hs:av 10 115=false:=by decide+kernel
  have hw:av 10 119=false:=by decide+kernel
  simp only [hq,hb,ht,hl,hv,he,hm,ha,hn,hc,hp,hf,hr,ho,hs,hw,true_or,false_or,true_and,and_true,Bool.false_eq_true] at z
  rw [jd]; unfold ed dC gT
  rw [if_neg (show ¬ m.ae≤0 by omega),if_neg (show ¬ m.ae ≥ 15 by omega),Int.toNat_of_nonneg (show 0≤m.ae by omega),hk]
  rw [show dB 10= [118,109,112,102,114] from rfl]
  simp only [Int.reduceEq, ↓reduceIte,aT,decide_true,decide_false,Bool.false_eq_true,reduceCtorEq,i1,i2,i3,i5,iA,gL,decide_eq_true_eq,Bool.and_eq_true]
  refine i4 ?_
  rw [kX]
  simp only [List.mem_cons,List.not_mem_nil,or_false,forall_eq_or_imp,forall_eq,gp,aT,Int.reduceEq, ↓reduceIte,s4,nG,nH,nI,nJ,nK,z,hk,fE,eX,kJ,iA,jK,jL,gL,j3,nL,decide_eq_true_eq,true_and,and_true]
  rw [jR (by obtain⟨a,b,c,d,e,f,g,i,j⟩:=hn; refine⟨?_, ?_, ?_, ?_, ?_, ?_, ?_, ?_, ?_⟩ <;> dsimp only <;> omega)]
  simp only [true_and,and_true]
  try constructor <;> intro h <;> simp_all
set_option maxHeartbeats 4000000 in
theorem xA {m:bE} (hk:m.ae=11) (hn:m.bG≤18446744073709551615∧m.aY≤18446744073709551615∧m.bF≤18446744073709551615∧m.bH≤18446744073709551615∧m.bL≤18446744073709551615∧m.aV≤18446744073709551615∧m.bB≤18446744073709551615∧m.aK≤18446744073709551615∧m.xN≤18446744073709551615):dJ m=dC m:=by
  have z:=kL m
  rw [hk] at z
  have hq:av 11 113=false:=by decide+kernel
  have hb:av 11 98=false:=by decide+kernel
  have ht:av 11 116=false:=by decide+kernel
  have hl:av 11 108=false:=by decide+kernel
  have hv:av 11 118=false:=by decide+kernel
  have he:av 11 101=false:=by decide+kernel
  have hm:av 11 109=true:=by decide+kernel
  have ha:av 11 97=true:=by decide+kernel
  have hn:av 11 110=true:=by decide+kernel
  have hc:av 11 99=false:=by decide+kernel
  have hp:av 11 112=false:=by decide+kernel
  have hf:av 11 102=false:=by decide+kernel
  have hr:av 11 114=true:=by decide+kernel
  have ho:av 11 111=true:=by decide+kernel
  have hs:av 11 115=false:=by decide+kernel
  have hw:av 11 119=false:=by decide+kernel
  simp only [hq,hb,ht,hl,hv,he,hm,ha,hn,hc,hp,hf,hr,ho,hs,hw,true_or,false_or,true_and,and_true,Bool.false_eq_true] at z
  rw [jd]; unfold ed dC gT
  rw [if_neg (show ¬ m.ae≤0 by omega),if_neg (show ¬ m.ae ≥ 15 by omega),Int.toNat_of_nonneg (show 0≤m.ae by omega),hk]
  rw [show dB 11= [109,97,110,114,111] from rfl]
  simp only [Int.reduceEq, ↓reduceIte,aT,decide_true,decide_false,Bool.false_eq_true,reduceCtorEq,i1,i2,i3,i5,iA,gL,decide_eq_true_eq,Bool.and_eq_true]
  refine i4 ?_
  rw [kX]
  simp only [List.mem_cons,List.not_mem_nil,or_false,forall_eq_or_imp,forall_eq,gp,aT,Int.reduceEq, ↓reduceIte,s4,nG,nH,nI,nJ,nK,z,hk,fE,eX,kJ,iA,jK,jL,gL,j3,nL,decide_eq_true_eq,true_and,and_true]
  rw [jR (by obtain⟨a,b,c,d,e,f,g,i,j⟩:=hn; refine⟨?_, ?_, ?_, ?_, ?_, ?_, ?_, ?_, ?_⟩ <;> dsimp only <;> omega)]
  simp only [true_and,and_true]
  try constructor <;> intro h <;> simp_all
set_option maxHeartbeats 4000000 in
theorem xC {m:bE} (hk:m.ae=12) (hn:m.bG≤18446744073709551615∧m.aY≤18446744073709551615∧m.bF≤18446744073709551615∧m.bH≤18446744073709551615∧m.bL≤18446744073709551615∧m.aV≤18446744073709551615∧m.bB≤18446744073709551615∧m.aK≤18446744073709551615∧m.xN≤18446744073709551615):dJ m=dC m:=by
  have z:=kL m
  rw [hk] at z
  have hq:av 12 113=false:=by decide+kernel
  have hb:av 12 98=false:=by decide+kernel
  have ht:av 12 116=false:=by decide+kernel
  have hl:av 12 108=false:=by decide+kernel
  have hv:av 12 118=false:=by decide+kernel
  have he:av 12 101=false:=by decide+kernel
  have hm:av 12 109=true:=by decide+kernel
  have ha:av 12 97=true:=by decide+kernel
  have hn:av 12 110=true:=by decide+kernel
  have hc:av 12 99=false:=by decide+kernel
  have hp:av 12 112=false:=by decide+kernel
  have hf:av 12 102=false:=by decide+kernel
  have hr:av 12 114=false:=by decide+kernel
  have ho:av 12 111=false:=by decide+kernel
  have hs:av 12 115=false:=by decide+kernel
  have hw:av 12 119=false:=by decide+kernel
  simp only [hq,hb,ht,hl,hv,he,hm,ha,hn,hc,hp,hf,hr,ho,hs,hw,true_or,false_or,true_and,and_true,Bool.false_eq_true] at z
  rw [jd]; unfold ed dC gT
  rw [if_neg (show ¬ m.ae≤0 by omega),if_neg (show ¬ m.ae ≥ 15 by omega),Int.toNat_of_nonneg (show 0≤m.ae by omega),hk]
  rw [show dB 12= [109,97,110] from rfl]
  simp only [Int.reduceEq, ↓reduceIte,aT,decide_true,decide_false,Bool.false_eq_true,reduceCtorEq,i1,i2,i3,i5,iA,gL,decide_eq_true_eq,Bool.and_eq_true]
  refine i4 ?_
  rw [kX]
  simp only [List.mem_cons,List.not_mem_nil,or_false,forall_eq_or_imp,forall_eq,gp,aT,Int.reduceEq, ↓reduceIte,s4,nG,nH,nI,nJ,nK,z,hk,fE,eX,kJ,iA,jK,jL,gL,j3,nL,decide_eq_true_eq,true_and,and_true]
  rw [jR (by obtain⟨a,b,c,d,e,f,g,i,j⟩:=hn; refine⟨?_, ?_, ?_, ?_, ?_, ?_, ?_, ?_, ?_⟩ <;> dsimp only <;> omega)]
  simp only [true_and,and_true]
  try constructor <;> intro h <;> simp_all
set_option maxHeartbeats 4000000 in
theorem xD {m:bE} (hk:m.ae=13) (hn:m.bG≤18446744073709551615∧m.aY≤18446744073709551615∧m.bF≤18446744073709551615∧m.bH≤18446744073709551615∧m.bL≤18446744073709551615∧m.aV≤18446744073709551615∧m.bB≤18446744073709551615∧m.aK≤18446744073709551615∧m.xN≤18446744073709551615):dJ m=dC m:=by
  have z:=kL m
  rw [hk] at z
  have hq:av 13 113=false:=by decide+kernel
  have hb:av 13 98=false:=by decide+kernel
  have ht:av 13 116=false:=by decide+kernel
  have hl:av 13 108=false:=by decide+kernel
  have hv:av 13 118=false:=by decide+kernel
  have he:av 13 101=false:=by decide+kernel
  have hm:av 13 109=true:=by decide+kernel
  have ha:av 13 97=false:=by decide+kernel
  have hn:av 13 110=false:=by decide+kernel
  have hc:av 13 99=false:=by decide+kernel
  have hp:av 13 112=false:=by decide+kernel
  have hf:av 13 102=false:=by decide+kernel
  have hr:av 13 114=false:=by decide+kernel
  have ho:av 13 111=false:=by decide+kernel
  have hs:av 13 115=false:=by decide+kernel
  have hw:av 13 119=false:=by decide+kernel
  simp only [hq,hb,ht,hl,hv,he,hm,ha,hn,hc,hp,hf,hr,ho,hs,hw,true_or,false_or,true_and,and_true,Bool.false_eq_true] at z
  rw [jd]; unfold ed dC gT
  rw [if_neg (show ¬ m.ae≤0 by omega),if_neg (show ¬ m.ae ≥ 15 by omega),Int.toNat_of_nonneg (show 0≤m.ae by omega),hk]
  rw [show dB 13= [109] from rfl]
  simp only [Int.reduceEq, ↓reduceIte,aT,decide_true,decide_false,Bool.false_eq_true,reduceCtorEq,i1,i2,i3,i5,iA,gL,decide_eq_true_eq,Bool.and_eq_true]
  refine i4 ?_
  rw [kX]
  simp only [List.mem_cons,List.not_mem_nil,or_false,forall_eq_or_imp,forall_eq,gp,aT,Int.reduceEq, ↓reduceIte,s4,nG,nH,nI,nJ,nK,z,hk,fE,eX,kJ,iA,jK,jL,gL,j3,nL,decide_eq_true_eq,true_and,and_true]
  rw [jR (by obtain⟨a,b,c,d,e,f,g,i,j⟩:=hn; refine⟨?_, ?_, ?_, ?_, ?_, ?_, ?_, ?_, ?_⟩ <;> dsimp only <;> omega)]
  simp only [true_and,and_true]
  try constructor <;> intro h <;> simp_all
set_option maxHeartbeats 4000000 in
theorem xG {m:bE} (hk:m.ae=14) (hn:m.bG≤18446744073709551615∧m.aY≤18446744073709551615∧m.bF≤18446744073709551615∧m.bH≤18446744073709551615∧m.bL≤18446744073709551615∧m.aV≤18446744073709551615∧m.bB≤18446744073709551615∧m.aK≤18446744073709551615∧m.xN≤18446744073709551615):dJ m=dC m:=by
  have z:=kL m
  rw [hk] at z
  have hq:av 14 113=false:=by decide+kernel
  have hb:av 14 98=false:=by decide+kernel
  have ht:av 14 116=false:=by decide+kernel
  have hl:av 14 108=false:=by decide+kernel
  have hv:av 14 118=false:=by decide+kernel
  have he:av 14 101=false:=by decide+kernel
  have hm:av 14 109=true:=by decide+kernel
  have ha:av 14 97=false:=by decide+kernel
  have hn:av 14 110=false:=by decide+kernel
  have hc:av 14 99=false:=by decide+kernel
  have hp:av 14 112=false:=by decide+kernel
  have hf:av 14 102=false:=by decide+kernel
  have hr:av 14 114=false:=by decide+kernel
  have ho:av 14 111=false:=by decide+kernel
  have hs:av 14 115=false:=by decide+kernel
  have hw:av 14 119=false:=by decide+kernel
  simp only [hq,hb,ht,hl,hv,he,hm,ha,hn,hc,hp,hf,hr,ho,hs,hw,true_or,false_or,true_and,and_true,Bool.false_eq_true] at z
  rw [jd]; unfold ed dC gT
  rw [if_neg (show ¬ m.ae≤0 by omega),if_neg (show ¬ m.ae ≥ 15 by omega),Int.toNat_of_nonneg (show 0≤m.ae by omega),hk]
  rw [show dB 14= [109] from rfl]
  simp only [Int.reduceEq, ↓reduceIte,aT,decide_true,decide_false,Bool.false_eq_true,reduceCtorEq,i1,i2,i3,i5,iA,gL,decide_eq_true_eq,Bool.and_eq_true]
  refine i4 ?_
  rw [kX]
  simp only [List.mem_cons,List.not_mem_nil,or_false,forall_eq_or_imp,forall_eq,gp,aT,Int.reduceEq, ↓reduceIte,s4,nG,nH,nI,nJ,nK,z,hk,fE,eX,kJ,iA,jK,jL,gL,j3,nL,decide_eq_true_eq,true_and,and_true]
  rw [jR (by obtain⟨a,b,c,d,e,f,g,i,j⟩:=hn; refine⟨?_, ?_, ?_, ?_, ?_, ?_, ?_, ?_, ?_⟩ <;> dsimp only <;> omega)]
  simp only [true_and,and_true]
  try constructor <;> intro h <;> simp_all
theorem vC {m:bE} (hn:m.bG≤18446744073709551615∧m.aY≤18446744073709551615∧m.bF≤18446744073709551615∧m.bH≤18446744073709551615∧m.bL≤18446744073709551615∧m.aV≤18446744073709551615∧m.bB≤18446744073709551615∧m.aK≤18446744073709551615∧m.xN≤18446744073709551615):dJ m=dC m:=by
  by_cases h:1≤m.ae∧m.ae≤14
  · rcases kinds (k:=m.ae) (by omega) (by omega) with k | k | k | k | k | k | k | k | k | k | k | k | k | k
    · exact yc k hn
    · exact yf k hn
    · exact yg k hn
    · exact yh k hn
    · exact yj k hn
    · exact yl k hn
    · exact ym k hn
    · exact yn k hn
    · exact yu k hn
    · exact xz k hn
    · exact xA k hn
    · exact xC k hn
    · exact xD k hn
    · exact xG k hn
  · exact xy h
end Go.Proofs.YtccjclalngabhaaGreat
