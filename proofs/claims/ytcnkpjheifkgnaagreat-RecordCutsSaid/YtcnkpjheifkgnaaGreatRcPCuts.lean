/-
  RecordCuts of its arguments' values: what was cut is too short; with a byte more it has the wrong form.
  Conditions: numbers of 64 bits.
-/
import Derived.Test.YtcnkpjheifkgnaaGreatRcL
import Derived.Test.YtcnkpjheifkgnaaGreatRLC
namespace Go.Proofs.YtcnkpjheifkgnaaGreat
set_option linter.unusedVariables false
set_option linter.unusedSimpArgs false
theorem sP (b:Int) (n:Nat) (hn:0 < n):Int.toNat (remI ((remI b n)+((n:Nat):Int)) n) < n:=by
  have c:=lM b hn
  have d:=lM ((remI b n)+((n:Nat):Int)) hn
  have e:=pR (a:=(remI b n)+((n:Nat):Int)) (n:=n) (by omega)
  omega
theorem qP {p:bP} {c:bL} (hp:o8 p) (hq:o9 c) (e:Int) (x:UInt8):lq p c e x=true:=by
  unfold lq
  rw [sO,aF,aF,aF,uE,uF]
  have g:(if(if bn c=0 then([67]++jD c,(0:Int)) else([],bn c)).2=0 then if((List.length (if bn c=0 then([67]++jD c,(0:Int)) else([],bn c)).1:Nat):Int)=0 then false else bnd (bW (List.take (Int.toNat (remI ((remI e (List.length (if bn c=0 then([67]++jD c,(0:Int)) else([],bn c)).1))+((List.length (if bn c=0 then([67]++jD c,(0:Int)) else([],bn c)).1:Nat):Int)) (List.length (if bn c=0 then([67]++jD c,(0:Int)) else([],bn c)).1))) (if bn c=0 then([67]++jD c,(0:Int)) else([],bn c)).1)) fun a=>bnd (bW ((if bn c=0 then([67]++jD c,(0:Int)) else([],bn c)).1++ [x])) fun b=>if a.2=10 then if b.2=11 then true else false else false else true)=true:=by
    by_cases k:bn c=0
    · have ps:=vQ k hq
      have hl:0 < List.length ([67]++jD c):=by simp only [List.length_append,List.length_cons,List.length_nil]; omega
      rw [if_pos k]
      dsimp only
      rw [if_pos rfl,if_neg (by omega),aF,aF,xn c ps.1 (by have:=ps.2; omega) _ (sP e _ hl),if_pos rfl,xu c ps.1 ps.2 x,if_pos rfl]
    · rw [if_neg k]
      dsimp only
      rw [if_neg k]
  have h:lp (if(if bi p=0 then([83]++jv p,(0:Int)) else([],bi p)).2=0 then if((List.length (if bi p=0 then([83]++jv p,(0:Int)) else([],bi p)).1:Nat):Int)=0 then Sum.inr (false) else bnd (bQ (List.take (Int.toNat (remI ((remI e (List.length (if bi p=0 then([83]++jv p,(0:Int)) else([],bi p)).1))+((List.length (if bi p=0 then([83]++jv p,(0:Int)) else([],bi p)).1:Nat):Int)) (List.length (if bi p=0 then([83]++jv p,(0:Int)) else([],bi p)).1))) (if bi p=0 then([83]++jv p,(0:Int)) else([],bi p)).1)) fun f=>bnd (bQ ((if bi p=0 then([83]++jv p,(0:Int)) else([],bi p)).1++ [x])) fun d=>if f.2=10 then if d.2=11 then Sum.inl () else Sum.inr (false) else Sum.inr (false) else Sum.inl ())=lp (Sum.inl ()):=by
    by_cases k:bi p=0
    · have ps:=vM k hp
      have hl:0 < List.length ([83]++jv p):=by simp only [List.length_append,List.length_cons,List.length_nil]; omega
      rw [if_pos k]
      dsimp only
      rw [if_pos rfl,if_neg (by omega),aF,aF,xm p ps.1 (by have:=ps.2; omega) _ (sP e _ hl),if_pos rfl,xq p ps.1 ps.2 x,if_pos rfl]
    · rw [if_neg k]
      dsimp only
      rw [if_neg k]
  rw [h]
  exact g
end Go.Proofs.YtcnkpjheifkgnaaGreat
