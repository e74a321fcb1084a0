/-
  Which states may be: the program's answer and the document's are one (the coordinator).
  Conditions: none.
-/
import Derived.Test.YtcnkpjheifkgnaaGreatRcK
import Derived.Test.YtcnkpjheifkgnaaGreatRp
namespace Go.Proofs.YtcnkpjheifkgnaaGreat
set_option linter.unusedVariables false
set_option linter.unusedSimpArgs false
theorem xk (p:bI):∀ (q:List aL) (b:Bool),gK p q b=(b && q.all fun x=>decide (x.bV≤p.aa))
  | [],b=>by simp [gK]
  | x::q,b=>by
    simp only [gK,aN,xk p q,List.all_cons]
    cases b <;> simp
theorem xm (p:bI):∀ (q:List aL),(lp (fZ p q) fun _=>true)=q.all fun x=>decide (x.bV≤p.aa)
  | []=>rfl
  | x::q=>by
    simp only [fZ,List.all_cons]
    by_cases h:x.bV > p.aa
    · rw [if_pos h,decide_eq_false (show ¬ x.bV≤p.aa by omega)]; simp [lp]
    · rw [if_neg h,decide_eq_true (show x.bV≤p.aa by omega),xm p q]; simp
def GG (p:bI) (d:bK):List Int→Nat→Bool
  | [],_=>true
  | x::q,j=>(decide (1≤x∧x≤p.aa) && decide (j=0∨List.getD d.aa.ls (j - 1) default < x)) && GG p d q (j+1)
theorem xn (p:bI) (k:Nat) (d:bK):∀ (q:List Int) (j:Nat),bC p k d q j=if GG p d q j=true then .inl () else .inr false
  | [],j=>rfl
  | x::q,j=>by
    have ih:=xn p k d q (j+1)
    have e:GG p d (x::q) j=((decide (1≤x∧x≤p.aa) && decide (j=0∨List.getD d.aa.ls (j - 1) default < x)) && GG p d q (j+1)):=rfl
    rw [e]
    unfold bC
    rw [aN,pU]
    by_cases a:1≤x∧x≤p.aa
    · rw [if_pos (decide_eq_true a)]
      simp only [decide_eq_true a,Bool.true_and,aN]
      by_cases z:((j:Nat):Int) > 0
      · rw [if_pos z]
        by_cases t:x≤List.getD d.aa.ls (j - 1) default
        · rw [if_pos t]
          have:decide (j=0∨List.getD d.aa.ls (j - 1) default < x)=false:=decide_eq_false (by omega)
          simp only [this,Bool.false_and,Bool.false_eq_true,if_false]
        · rw [if_neg t]
          have:decide (j=0∨List.getD d.aa.ls (j - 1) default < x)=true:=decide_eq_true (by omega)
          simp only [this,Bool.true_and]
          exact ih
      · rw [if_neg z]
        have:decide (j=0∨List.getD d.aa.ls (j - 1) default < x)=true:=decide_eq_true (by omega)
        simp only [this,Bool.true_and]
        exact ih
    · have f:decide (1≤x∧x≤p.aa)=false:=decide_eq_false a
      simp [f]
def tx (p:bI) (n:Nat):Bool:=decide (((n:Nat):Int) < ((aU (Int.toNat (IntKind.u64.wrap (((p.aj:Nat):Int)+1))) 32:Nat):Int))
def DD (p:bI):List bK→Nat→Bool
  | [],_=>true
  | x::q,k=>(decide (k=0∨(List.getD p.af.ls (k - 1) default).av < x.av) && (tx p x.av && (decide (1≤x.ak∧x.ak≤4) && (decide (List.length x.aa.ls ≥ 1) && GG p x x.aa.ls 0)))) && DD p q (k+1)
theorem xq (p:bI):∀ (q:List bK) (k:Nat),(lp (bD p q k) fun _=>true)=DD p q k
  | [],k=>rfl
  | x::q,k=>by
    have ih:=xq p q (k+1)
    have rest:(lp (if((x.av:Nat):Int) ≥ ((aU (Int.toNat (IntKind.u64.wrap (((p.aj:Nat):Int)+1))) 32:Nat):Int) then Sum.inr (false) else if cZ x.ak 4=true then if((List.length x.aa.ls:Nat):Int)=0 then Sum.inr (false) else lv (bC p k x x.aa.ls 0) fun _=>bD p q (k+1) else Sum.inr (false)) fun _=>true)=((tx p x.av && (decide (1≤x.ak∧x.ak≤4) && (decide (List.length x.aa.ls ≥ 1) && GG p x x.aa.ls 0))) && DD p q (k+1)):=by
      rw [← ih,pU,xn]
      by_cases a:((x.av:Nat):Int) ≥ ((aU (Int.toNat (IntKind.u64.wrap (((p.aj:Nat):Int)+1))) 32:Nat):Int)
      · have ht:tx p x.av=false:=decide_eq_false (by omega)
        rw [if_pos a,ht]; simp [lp]
      · have ht:tx p x.av=true:=decide_eq_true (by omega)
        rw [if_neg a,ht,Bool.true_and]
        by_cases b:1≤x.ak∧x.ak≤4
        · have hb:decide (1≤x.ak∧x.ak≤4)=true:=decide_eq_true b
          rw [hb,if_pos rfl,Bool.true_and]
          by_cases c:((List.length x.aa.ls:Nat):Int)=0
          · have hc:decide (List.length x.aa.ls ≥ 1)=false:=decide_eq_false (by omega)
            rw [if_pos c,hc]; simp [lp]
          · have hc:decide (List.length x.aa.ls ≥ 1)=true:=decide_eq_true (by omega)
            rw [if_neg c,hc,Bool.true_and]
            by_cases g:GG p x x.aa.ls 0=true
            · rw [if_pos g,g]; simp [lv]
            · rw [if_neg g]; simp [lv,lp,g]
        · have hb:decide (1≤x.ak∧x.ak≤4)=false:=decide_eq_false b
          rw [hb,if_neg (by decide)]; simp [lp]
    simp only [bD,DD,aN,uZ]
    by_cases hk:((k:Nat):Int) > 0
    · rw [if_pos hk]
      by_cases ht:((x.av:Nat):Int)≤(((List.getD p.af.ls (k - 1) default).av:Nat):Int)
      · rw [if_pos ht,decide_eq_false (by omega)]; simp [lp]
      · rw [if_neg ht,decide_eq_true (by omega),Bool.true_and]
        exact rest
    · rw [if_neg hk,decide_eq_true (by omega),Bool.true_and]
      exact rest
theorem xu (p:bI) (k:Nat) (d:bK):∀ (q:List Int) (b:Bool) (j:Nat),fH p k d q b j=(b && GG p d q j)
  | [],b,j=>by simp [fH,GG]
  | x::q,b,j=>by
    simp only [fH,aN,xu p k d q,GG]
    have e:(((j:Nat):Int)=0)=(j=0):=propext (by omega)
    simp only [e,ge_iff_le]
    by_cases a:1≤x <;> by_cases c:x≤p.aa <;> by_cases z:j=0 <;> cases b <;> simp [a,c,z]
theorem xw (p:bI) (k:Nat) (d:bK):∀ (q:List Int) (b:Bool) (j:Nat),gY p k d q b j=fH p k d q b j
  | [],b,j=>rfl
  | x::q,b,j=>by simp only [gY,fH,aN,xw p k d q]
theorem vo (p:bI):∀ (q:List bK) (k:Nat),aY p q false k=false
  | [],k=>rfl
  | x::q,k=>by simp [aY,aN,vo p q]
theorem xx (p:bI):∀ (q:List bK) (b:Bool) (k:Nat),aY p q b k=(b && DD p q k)
  | [],b,k=>by simp [aY,DD]
  | x::q,false,k=>by rw [vo]; rfl
  | x::q,true,k=>by
    have ih:=fun b=>xx p q b (k+1)
    simp only [aY,aN,xw,xu,vo,ih,DD,if_true]
    have f:(((List.length x.aa.ls:Nat):Int) ≥ 1)=(List.length x.aa.ls ≥ 1):=propext (by omega)
    have g:(((k:Nat):Int)=0)=(k=0):=propext (by omega)
    have h:((((List.getD p.af.ls (k - 1) default).av:Nat):Int) < ((x.av:Nat):Int))=((List.getD p.af.ls (k - 1) default).av < x.av):=propext (by omega)
    unfold tx
    simp only [f,g,h,ge_iff_le]
    generalize DD p q (k+1)=u
    generalize GG p x x.aa.ls 0=v
    generalize decide (1≤List.length x.aa.ls)=i
    by_cases a:k=0 <;> by_cases b:(List.getD p.af.ls (k - 1) default).av < x.av <;> by_cases c:1≤x.ak <;> by_cases d:x.ak≤4 <;> by_cases e:((x.av:Nat):Int) < ((aU (Int.toNat (IntKind.u64.wrap (((p.aj:Nat):Int)+1))) 32:Nat):Int) <;> cases u <;> cases v <;> cases i <;> simp only [a,b,c,d,e,if_true,if_false,decide_true,decide_false,true_or,or_true,false_or,or_false,true_and,and_true,false_and,and_false,Bool.true_and,Bool.and_true,Bool.false_and,Bool.and_false,or_self,and_self]
theorem xy:∀ l:List bH,dO l=gy l
  | []=>rfl
  | x::q=>by simp only [dO,gy,aN, ← tT,xy q]
theorem yJ:∀ l:List bH,gy l= .inl ()∨gy l= .inr false
  | []=> .inl rfl
  | x::q=>by
    simp only [gy,aN]
    split
    · split
      · exact .inr rfl
      · exact yJ q
    · exact .inr rfl
theorem vO:∀ l:List cK,(lp (gG l) fun _=>true)=l.all dY
  | []=>rfl
  | x::q=>by
    have ih:=vO q
    simp only [gG,List.all_cons,dY,xy]
    by_cases a:((List.length x.aC:Nat):Int) > 16
    · simp [a,lp]
    · by_cases b:((List.length x.aA.ls:Nat):Int) > 4
      · simp [a,b,lp]
      · rw [if_neg a,if_neg b,if_neg a,if_neg b]
        rcases yJ x.aA.ls with c | c
        · rw [c]; simpa [lp,lv] using ih
        · rw [c]; simp [lp,lv]
theorem xz (k:Nat) (x:eD):∀ (n j:Nat),j+n=List.length x.au.ls→dn k x n j=if(List.drop j x.au.ls).all dY=true then .inl () else .inr false
  | 0,j,h=>by rw [List.drop_of_length_le (by omega)]; rfl
  | n+1,j,h=>by
    have hj:j < List.length x.au.ls:=by omega
    rw [List.drop_eq_getElem_cons hj,List.all_cons]
    have e:List.getD x.au.ls j default=x.au.ls[j]:=by rw [List.getD,List.getElem?_eq_getElem hj]; rfl
    simp only [dn,aN,xz k x n (j+1) (by omega)]
    have a:dY (cK.mk (List.getD x.au.ls j default).eT (List.getD x.au.ls j default).aC (Ll.mk (List.getD x.au.ls j default).aA.ls))=dY x.au.ls[j]:=by rw [e]
    rw [a]
    cases dY x.au.ls[j]
    · rfl
    · simp
def EE (l:List eD):List eD→Nat→Bool
  | [],_=>true
  | x::q,k=>(decide (1≤x.ak∧x.ak≤4) && (decide (k=0∨(List.getD l (k - 1) default).ak < x.ak) && (decide (List.length x.au.ls≤4) && x.au.ls.all dY))) && EE l q (k+1)
theorem xA (l:List eD):∀ (q:List eD) (k:Nat),(lp (bX l q k) fun _=>true)=EE l q k
  | [],k=>rfl
  | x::q,k=>by
    have ih:=xA l q (k+1)
    have rest:(lp (if((List.length x.au.ls:Nat):Int) > 4 then Sum.inr (false) else lv (dn k x (List.length x.au.ls) 0) fun _=>bX l q (k+1)) fun _=>true)=((decide (List.length x.au.ls≤4) && x.au.ls.all dY) && EE l q (k+1)):=by
      rw [← ih,xz k x _ 0 (by omega),List.drop_zero]
      by_cases c:((List.length x.au.ls:Nat):Int) > 4
      · rw [if_pos c,decide_eq_false (by omega)]; simp [lp]
      · rw [if_neg c,decide_eq_true (by omega),Bool.true_and]
        by_cases g:x.au.ls.all dY=true
        · rw [if_pos g,g]; simp [lv]
        · rw [if_neg g]
          have:x.au.ls.all dY=false:=by simpa using g
          rw [this]; simp [lv,lp]
    simp only [bX,EE,aN,ve,pU]
    by_cases b:1≤x.ak∧x.ak≤4
    · rw [decide_eq_true b,if_pos rfl,Bool.true_and]
      by_cases hk:((k:Nat):Int) > 0
      · rw [if_pos hk]
        by_cases ht:x.ak≤(List.getD l (k - 1) default).ak
        · rw [if_pos ht,decide_eq_false (by omega)]; simp [lp]
        · rw [if_neg ht,decide_eq_true (by omega),Bool.true_and]
          exact rest
      · rw [if_neg hk,decide_eq_true (by omega),Bool.true_and]
        exact rest
    · rw [decide_eq_false b,if_neg (by decide)]; simp [lp]
theorem yK (l:List cK):lQ l 4=(decide (List.length l≤4) && l.all dY):=by
  unfold lQ
  by_cases c:((List.length l:Nat):Int) > 4
  · rw [if_pos c,decide_eq_false (by omega)]; rfl
  · rw [if_neg c,decide_eq_true (by omega),Bool.true_and,vO]
theorem uu (p:bI):∀ (q:List eD) (k:Nat),bu p q false k=false
  | [],k=>rfl
  | x::q,k=>by simp [bu,uu p q]
theorem vP (p:bI):∀ (q:List eD) (b:Bool) (k:Nat),bu p q b k=(b && EE p.aB.ls q k)
  | [],b,k=>by simp [bu,EE]
  | x::q,false,k=>by rw [uu]; rfl
  | x::q,true,k=>by
    have ih:=fun b=>vP p q b (k+1)
    simp only [bu,aN,uu,ih,EE,yK,if_true]
    have e:(((k:Nat):Int)=0)=(k=0):=propext (by omega)
    simp only [e,ge_iff_le]
    generalize EE p.aB.ls q (k+1)=u
    generalize (decide (List.length x.au.ls≤4) && x.au.ls.all dY)=v
    by_cases a:k=0 <;> by_cases b:(List.getD p.aB.ls (k - 1) default).ak < x.ak <;> by_cases c:1≤x.ak <;> by_cases d:x.ak≤4 <;> cases u <;> cases v <;> simp only [a,b,c,d,if_true,if_false,decide_true,decide_false,true_or,or_true,false_or,or_false,true_and,and_true,false_and,and_false,Bool.true_and,Bool.and_true,Bool.false_and,Bool.and_false,or_self,and_self]
theorem zI (p:bI):jq p=(decide (((List.length p.af.ls:Nat):Int)≤8) && DD p p.af.ls 0):=by
  unfold jq
  by_cases a:((List.length p.af.ls:Nat):Int) > 8
  · rw [if_pos a,decide_eq_false (by omega)]; rfl
  · rw [if_neg a,decide_eq_true (by omega),xq]; rfl
theorem zJ (l:List eD):kg l=(decide (((List.length l:Nat):Int)≤4) && EE l l 0):=by
  unfold kg
  by_cases a:((List.length l:Nat):Int) > 4
  · rw [if_pos a,decide_eq_false (by omega)]; rfl
  · rw [if_neg a,decide_eq_true (by omega),xA]; rfl
theorem zK (p:bI):jG p=(decide (gU p.ai.ls=0) && p.ai.ls.all fun x=>decide (x.bV≤p.aa)):=by
  unfold jG
  rw [aN,xm]
  by_cases o:gU p.ai.ls=0 <;> simp [o]
theorem Bz (a b c d:Bool) (B:Prop) [Decidable B]:(if a=true then if B then if b=true then if c=true then(if d=true then(0:Int) else 1) else(if false=true then 0 else 1) else(if false=true then 0 else 1) else(if false=true then 0 else 1) else(if false=true then 0 else 1))=if(a && (decide B && (b && (c && d))))=true then 0 else 1:=by
  by_cases h:B <;> cases a <;> cases b <;> cases c <;> cases d <;> simp [h]
theorem zL (p:bI):dA p=if(decide (1≤p.aa∧p.aa≤4) && (decide (((p.aj:Nat):Int) < 2147483648) && (jG p && (jq p && kg p.aB.ls))))=true then 0 else 1:=by
  rw [← Bz]
  unfold dA
  simp only [bnd,pU,xg]
theorem uw (p:bI):kR p=dA p:=by
  rw [zL,zI,zJ,zK,vM]
  unfold kR
  simp only [aN,zX,xh,xk,xx,vP]
  refine congrArg (fun b:Bool=>if b=true then(0:Int) else 1) ?_
  generalize decide (1≤p.aa∧p.aa≤4)=a
  generalize decide (((p.aj:Nat):Int) < 2147483648)=c
  generalize decide (jd p.ai.ls=0)=d
  generalize decide (((List.length p.af.ls:Nat):Int)≤8)=e
  generalize decide (((List.length p.aB.ls:Nat):Int)≤4)=f
  generalize DD p p.af.ls 0=g
  generalize EE p.aB.ls p.aB.ls 0=h
  generalize (p.ai.ls.all fun x=>decide (x.bV≤p.aa))=i
  ac_rfl
end Go.Proofs.YtcnkpjheifkgnaaGreat
