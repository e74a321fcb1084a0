/-
  RecordBack of its arguments' values: what was written is read as it was; what is read is written as these bytes.
  Conditions: numbers of 64 bits.
-/
import Derived.Test.YtcnkpjheifkgnaaGreatRcL
import Derived.Test.YtcnkpjheifkgnaaGreatRLB
namespace Go.Proofs.YtcnkpjheifkgnaaGreat
set_option linter.unusedVariables false
set_option linter.unusedSimpArgs false
theorem xy {σ α:Type} (x:σ) (f:σ→α):lp (Sum.inl x) f=f x:=rfl
theorem rQ {p:bP} {c:bK} (hp:nE p) (hq:nG c) (b:List UInt8):lU p c b=true:=by
  unfold lU
  rw [tZ,aF]
  by_cases l:((List.length b:Nat):Int) > 100000
  · rw [if_pos l]
  rw [if_neg l,aF,aF,sS]
  have m:lp (if bG p=0 then bnd (bL (if bG p=0 then([83]++ma p,(0:Int)) else([],bG p)).1) fun g=>if(if bG p=0 then([83]++ma p,(0:Int)) else([],bG p)).2=0 then if g.2=0 then bnd (jd p g.1) fun a=>if a=true then if((List.length (if bG p=0 then([83]++ma p,(0:Int)) else([],bG p)).1:Nat):Int) > 8192 then Sum.inr (false) else Sum.inl () else Sum.inr (false) else Sum.inr (false) else Sum.inr (false) else Sum.inl ())=lp (Sum.inl ()):=by
    by_cases k:bG p=0
    · have ps:=xg k hp
      rw [if_pos k,if_pos k]
      show lp (bnd (bL ([83]++ma p)) _)=_
      rw [wQ p ps.1 k (by have:=ps.2; omega),aF]
      show lp (if(0:Int)=0 then if(0:Int)=0 then bnd (jd p p) fun a=>if a=true then if((List.length ([83]++ma p):Nat):Int) > 8192 then Sum.inr (false) else Sum.inl () else Sum.inr (false) else Sum.inr (false) else Sum.inr (false))=_
      rw [if_pos rfl,if_pos rfl,vN,aF,if_pos rfl,if_neg (by have:=ps.2; simp only [List.length_append,List.length_cons,List.length_nil]; omega)]
    · rw [if_neg k]
  rw [m,xy,aF,aF,sU]
  have n:lp (if bH c=0 then bnd (bE (if bH c=0 then([67]++mO c,(0:Int)) else([],bH c)).1) fun f=>if(if bH c=0 then([67]++mO c,(0:Int)) else([],bH c)).2=0 then if f.2=0 then bnd (je c f.1) fun h=>if h=true then if((List.length (if bH c=0 then([67]++mO c,(0:Int)) else([],bH c)).1:Nat):Int) > 8192 then Sum.inr (false) else Sum.inl () else Sum.inr (false) else Sum.inr (false) else Sum.inr (false) else Sum.inl ())=lp (Sum.inl ()):=by
    by_cases k:bH c=0
    · have ps:=xn k hq
      rw [if_pos k,if_pos k]
      show lp (bnd (bE ([67]++mO c)) _)=_
      rw [wR c ps.1 k (by have:=ps.2; omega),aF]
      show lp (if(0:Int)=0 then if(0:Int)=0 then bnd (je c c) fun a=>if a=true then if((List.length ([67]++mO c):Nat):Int) > 8192 then Sum.inr (false) else Sum.inl () else Sum.inr (false) else Sum.inr (false) else Sum.inr (false))=_
      rw [if_pos rfl,if_pos rfl,vO,aF,if_pos rfl,if_neg (by have:=ps.2; simp only [List.length_append,List.length_cons,List.length_nil]; omega)]
    · rw [if_neg k]
  rw [n,xy,aF,aF]
  by_cases d:(bL b).2=0
  · obtain⟨j,i,o⟩:=yD d
    rw [if_pos d,sS,if_pos j,aF,if_pos rfl]
    show (if(0:Int)=0 then if [83]++ma (bL b).1=b then decide (¬ (bE b).2=0) else false else false)=true
    rw [if_pos rfl,if_pos i.symm]
    have q:List.length (ma (bL b).1) < 8192:=by
      have:=congrArg List.length i
      simp only [List.length_append,List.length_cons,List.length_nil] at this
      omega
    have:=wS _ q
    rw [← i] at this
    rw [this]
    rfl
  · rw [if_neg d]
    by_cases e:(bE b).2=0
    · obtain⟨j,i,o⟩:=yE e
      rw [if_pos e,sU,if_pos j,aF,if_pos rfl]
      show (if(0:Int)=0 then decide ([67]++mO (bE b).1=b) else false)=true
      rw [if_pos rfl]
      exact decide_eq_true i.symm
    · rw [if_neg e]
end Go.Proofs.YtcnkpjheifkgnaaGreat
