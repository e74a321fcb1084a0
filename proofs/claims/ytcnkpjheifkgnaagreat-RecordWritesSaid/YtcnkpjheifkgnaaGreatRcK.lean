/-
  Which states may be: the program's answer and the document's are one (shards).
  Conditions: none.
-/
import Derived.Test.YtcnkpjheifkgnaaGreatRcM
namespace Go.Proofs.YtcnkpjheifkgnaaGreat
set_option linter.unusedVariables false
set_option linter.unusedSimpArgs false
def nN (l:List bq):Bool:=l.all fun o=>decide (fC o=0)
def HH (p:bQ):List eZ→Nat→Bool
  | [],_=>true
  | x::q,k=>(decide (k=0∨(List.getD p.az.ls (k - 1) default).av < x.av) && (decide (1≤List.length x.ay.ls∧List.length x.ay.ls≤24) && nN x.ay.ls)) && HH p q (k+1)
theorem wU (k:Nat):∀ l:List bq,bT k l=if nN l=true then .inl () else .inr false
  | []=>rfl
  | y::q=>by
    by_cases e:fC y=0
    · simp only [bT,aN,wU k q,nN,List.all_cons,e,decide_true,Bool.true_and,if_true]; rfl
    · simp only [bT,aN,if_neg e,nN,List.all_cons,e,decide_false,Bool.false_and,Bool.false_eq_true,if_false]
theorem pU (n m:Int):cZ n m=decide (1≤n∧n≤m):=by
  unfold cZ
  by_cases h:n ≥ 1
  · rw [if_pos h]; simp only [ge_iff_le] at h; simp [h]
  · rw [if_neg h]; simp only [ge_iff_le] at h; simp [h]
theorem wV (p:bQ) (f:Unit→Bool):∀ (q:List eZ) (k:Nat),lp (bW p q k) f=(HH p q k && f ())
  | [],k=>by simp [bW,HH,lp]
  | x::q,k=>by
    have ih:=wV p f q (k+1)
    have rest:(if cZ ((List.length x.ay.ls:Nat):Int) 24=true then lp (lv (bT k x.ay.ls) fun _=>bW p q (k+1)) f else false)=((decide (1≤List.length x.ay.ls∧List.length x.ay.ls≤24) && nN x.ay.ls) && (HH p q (k+1) && f ())):=by
      rw [pU,wU]
      have e:decide (1≤((List.length x.ay.ls:Nat):Int)∧((List.length x.ay.ls:Nat):Int)≤24)=decide (1≤List.length x.ay.ls∧List.length x.ay.ls≤24):=by
        apply decide_eq_decide.2; omega
      rw [e]
      by_cases a:decide (1≤List.length x.ay.ls∧List.length x.ay.ls≤24)=true
      · rw [if_pos a,a]
        by_cases b:nN x.ay.ls=true
        · rw [if_pos b,b]; simpa [lv] using ih
        · rw [if_neg b]; simp [lp,lv,b]
      · rw [if_neg a]; simp [a]
    simp only [bW,HH,aN,uY]
    by_cases hk:((k:Nat):Int) > 0
    · rw [if_pos hk]
      by_cases ht:((x.av:Nat):Int)≤(((List.getD p.az.ls (k - 1) default).av:Nat):Int)
      · rw [if_pos ht]
        have:decide (k=0∨(List.getD p.az.ls (k - 1) default).av < x.av)=false:=decide_eq_false (by omega)
        rw [this]; simp [lp]
      · rw [if_neg ht]
        have:decide (k=0∨(List.getD p.az.ls (k - 1) default).av < x.av)=true:=decide_eq_true (by omega)
        rw [this,Bool.true_and,Bool.and_assoc, ← rest]
        split <;> rfl
    · rw [if_neg hk]
      have:decide (k=0∨(List.getD p.az.ls (k - 1) default).av < x.av)=true:=decide_eq_true (by omega)
      rw [this,Bool.true_and,Bool.and_assoc, ← rest]
      split <;> rfl
theorem vN:∀ l:List bq,decide (nG l=0)=nN l
  | []=>rfl
  | y::q=>by
    have ih:=vN q
    unfold nG at ih ⊢
    by_cases e:fC y=0
    · simp only [jX,aN, ← wT,if_pos e,nN,List.all_cons,e,decide_true,Bool.true_and] at ih ⊢
      exact ih
    · simp only [jX,aN, ← wT,if_neg e,nN,List.all_cons,e,decide_false,Bool.false_and,lp]
      exact decide_eq_false e
def rq (x:eZ) (l:List Nat):Bool:=l.all fun n=>decide (¬ n=x.av)
theorem wW (k:Nat) (x:eZ):∀ (q:List Nat) (b:Bool),fG k x q b=(b && rq x q)
  | [],b=>by simp [fG,rq]
  | n::q,b=>by
    simp only [fG,aN,wW k x q,rq,List.all_cons]
    have:(((n:Nat):Int)=((x.av:Nat):Int))=(n=x.av):=propext (by omega)
    cases b <;> simp [this]
theorem wX (k:Nat) (x:eZ):∀ (q:List Nat) (b:Bool),gX k x q b=fG k x q b
  | [],b=>rfl
  | n::q,b=>by simp only [gX,fG,aN,wX k x q]
theorem vk (p:bQ):∀ (q:List eZ) (k:Nat),bz p q false k=false
  | [],k=>rfl
  | x::q,k=>by simp [bz,aN,vk p q]
theorem wY (p:bQ):∀ (q:List eZ) (b:Bool) (k:Nat),bz p q b k=(b && (HH p q k && q.all fun x=>rq x p.ah.ls))
  | [],b,k=>by simp [bz,HH]
  | x::q,false,k=>by rw [vk]; rfl
  | x::q,true,k=>by
    have ih:=fun b=>wY p q b (k+1)
    simp only [bz,aN,wX,wW,vk,ih,vN,HH,List.all_cons,if_true]
    have e:(((List.length x.ay.ls:Nat):Int) ≥ 1)=(1≤List.length x.ay.ls):=propext (by omega)
    have f:(((List.length x.ay.ls:Nat):Int)≤24)=(List.length x.ay.ls≤24):=propext (by omega)
    have g:(((k:Nat):Int)=0)=(k=0):=propext (by omega)
    have h:((((List.getD p.az.ls (k - 1) default).av:Nat):Int) < ((x.av:Nat):Int))=((List.getD p.az.ls (k - 1) default).av < x.av):=propext (by omega)
    simp only [e,f,g,h]
    generalize (HH p q (k+1))=u
    generalize (q.all fun x=>rq x p.ah.ls)=v
    generalize rq x p.ah.ls=i
    generalize nN x.ay.ls=j
    by_cases a:k=0 <;> by_cases b:(List.getD p.az.ls (k - 1) default).av < x.av <;> by_cases c:1≤List.length x.ay.ls <;> by_cases d:List.length x.ay.ls≤24 <;> cases u <;> cases v <;> cases i <;> cases j <;> simp only [a,b,c,d,if_true,if_false,decide_true,decide_false,true_or,or_true,false_or,or_false,true_and,and_true,false_and,and_false,Bool.true_and,Bool.and_true,Bool.false_and,Bool.and_false,or_self,and_self]
def FF (p:bQ):List Nat→Nat→Bool
  | [],_=>true
  | x::q,k=>decide (k=0∨List.getD p.ah.ls (k - 1) default < x) && FF p q (k+1)
theorem wZ (p:bQ):∀ (q:List Nat) (b:Bool) (k:Nat),gJ p q b k=(b && FF p q k)
  | [],b,k=>by simp [gJ,FF]
  | x::q,b,k=>by
    simp only [gJ,aN,wZ p q,FF]
    have c:(((k:Nat):Int)=0)=(k=0):=propext (by omega)
    have d:(((List.getD p.ah.ls (k - 1) default:Nat):Int) < ((x:Nat):Int))=(List.getD p.ah.ls (k - 1) default < x):=propext (by omega)
    simp only [c,d]
    cases b
    · simp
    · by_cases a:k=0 <;> simp [a]
theorem xc (n:Nat):∀ l:List eZ,(lp (gP n l) fun _=>false)=l.any fun x=>decide (x.av=n)
  | []=>rfl
  | x::q=>by
    have e:(((x.av:Nat):Int)=((n:Nat):Int))=(x.av=n):=propext (by omega)
    by_cases h:x.av=n
    · simp [gP,e,h,lp]
    · simp only [gP,e,if_neg h,xc n q,List.any_cons,decide_eq_false h,Bool.false_or]
theorem xe (p:bQ):∀ (q:List Nat) (k:Nat),(lp (fe p q k) fun _=>true)=(FF p q k && q.all fun n=> !(p.az.ls.any fun x=>decide (x.av=n)))
  | [],k=>rfl
  | x::q,k=>by
    have ih:=xe p q (k+1)
    simp only [fe,aN,FF,List.all_cons,lV,xc]
    generalize (p.az.ls.any fun y=>decide (y.av=x))=a
    by_cases hk:((k:Nat):Int) > 0
    · rw [if_pos hk]
      by_cases ht:((x:Nat):Int)≤((List.getD p.ah.ls (k - 1) default:Nat):Int)
      · have:decide (k=0∨List.getD p.ah.ls (k - 1) default < x)=false:=decide_eq_false (by omega)
        rw [if_pos ht,this]; simp [lp]
      · have:decide (k=0∨List.getD p.ah.ls (k - 1) default < x)=true:=decide_eq_true (by omega)
        rw [if_neg ht,this]
        cases a
        · simpa using ih
        · simp [lp]
    · have:decide (k=0∨List.getD p.ah.ls (k - 1) default < x)=true:=decide_eq_true (by omega)
      rw [if_neg hk,this]
      cases a
      · simpa using ih
      · simp [lp]
theorem swap (H:List eZ) (F:List Nat):(H.all fun x=>rq x F)=F.all fun n=> !(H.any fun x=>decide (x.av=n)):=by
  rw [Bool.eq_iff_iff]
  simp only [rq,List.all_eq_true,Bool.not_eq_true',List.any_eq_false,decide_eq_true_eq]
  constructor
  · intro h n hn x hx e
    exact h x hx n hn e.symm
  · intro h x hx n hn e
    exact h n hn x hx e.symm
theorem zF (p:bQ):jJ p=((decide (((List.length p.az.ls:Nat):Int)≤6) && decide (((List.length p.az.ls+(List.length p.ah.ls):Nat):Int)≤64)) && (HH p p.az.ls 0 && ((p.az.ls.all fun x=>rq x p.ah.ls) && FF p p.ah.ls 0))):=by
  unfold jJ
  by_cases a:((List.length p.az.ls:Nat):Int) > 6
  · rw [if_pos a,decide_eq_false (show ¬ ((List.length p.az.ls:Nat):Int)≤6 by omega)]; simp
  · rw [if_neg a,decide_eq_true (show ((List.length p.az.ls:Nat):Int)≤6 by omega)]
    by_cases b:((List.length p.az.ls+(List.length p.ah.ls):Nat):Int) > 64
    · rw [if_pos b,decide_eq_false (show ¬ ((List.length p.az.ls+(List.length p.ah.ls):Nat):Int)≤64 by omega)]; simp
    · rw [if_neg b,decide_eq_true (show ((List.length p.az.ls+(List.length p.ah.ls):Nat):Int)≤64 by omega),wV,xe,swap,Bool.true_and,Bool.true_and]
      rw [Bool.and_comm (FF p p.ah.ls 0)]
theorem xg (b:Bool):df b=if b=true then 0 else 1:=by cases b <;> rfl
def wC (p:bQ):Bool:=if((p.aS.aZ:Nat):Int)=0 then decide ((((p.aS.aZ:Nat):Int)=0)∧(((p.aS.bB:Nat):Int)=0)∧(((p.aS.cz:Nat):Int)=0)∧((p.aS.aP.aK=([]))∧(p.aS.aP.aO=([])))) else true
def wD (p:bQ):Bool:=if((p.bS:Nat):Int)=0 then decide ((p.bf.aK=([]))∧(p.bf.aO=([]))) else true
theorem Bw (A B C D E:Prop) [Decidable A] [Decidable B] [Decidable C] [Decidable D] [Decidable E] (s:Bool):(if A then if C then if B then if D then(if E then s else false) else false else(if E then s else false) else false else if B then if D then(if E then s else false) else false else(if E then s else false))=(((if A then decide C else true) && (if B then decide D else true)) && (decide E && s)):=by
  by_cases a:A <;> by_cases b:B <;> by_cases c:C <;> by_cases d:D <;> by_cases e:E <;> cases s <;> simp [a,b,c,d,e]
theorem zG (p:bQ):j6 p=((wC p && wD p) && (decide (dK p.aS.aP=0) && decide (dK p.bf=0))):=by
  unfold j6 wC wD
  simp only [aN]
  exact Bw _ _ _ _ _ _
theorem xh (b c:Bool):(if b=true then c else false)=(b && c):=by cases b <;> rfl
theorem zX (n m:Int):(if n ≥ 1 then decide (n≤m) else false)=decide (1≤n∧n≤m):=by
  have:=pU n m
  unfold cZ at this
  exact this
theorem zH (p:bQ):dz p=if(decide (1≤p.cO∧p.cO≤4) && (decide (gU p.ai.ls=0) && (jJ p && j6 p)))=true then 0 else 1:=by
  unfold dz
  simp only [aN,pU,xg]
  cases decide (1≤p.cO∧p.cO≤4) <;> by_cases o:gU p.ai.ls=0 <;> cases jJ p <;> cases j6 p <;> simp [o]
theorem ut (p:bQ):kQ p=dz p:=by
  rw [zH,zF,zG,vM,tV,tV]
  unfold kQ
  simp only [aN,zX,xh,wY,wZ]
  refine congrArg (fun b:Bool=>if b=true then(0:Int) else 1) ?_
  unfold wC wD
  generalize decide (1≤p.cO∧p.cO≤4)=d
  generalize decide (jd p.ai.ls=0)=e
  generalize decide (((List.length p.az.ls:Nat):Int)≤6)=f
  generalize decide (((List.length p.az.ls+(List.length p.ah.ls):Nat):Int)≤64)=g
  generalize decide (gz p.aS.aP=0)=h
  generalize decide (gz p.bf=0)=i
  generalize HH p p.az.ls 0=j
  generalize FF p p.ah.ls 0=k
  generalize (p.az.ls.all fun x=>rq x p.ah.ls)=l
  generalize (if((p.aS.aZ:Nat):Int)=0 then _ else true)=a
  generalize (if((p.bS:Nat):Int)=0 then _ else true)=c
  ac_rfl
end Go.Proofs.YtcnkpjheifkgnaaGreat
