/-
  Several effects of a region may come up at once; the greater of two strings.
  Conditions: none beyond each law's own.
-/
import Derived.Test.YtcnkpjheifkgnaaGreatKm
import Derived.Lib.MinMaxS
namespace Go.Proofs.YtcnkpjheifkgnaaGreat
set_option linter.unusedVariables false
set_option linter.unusedSimpArgs false
open Go.RowKit
section
variable {P:Program} {ops:Array Oper} {Q:Exit→Act→World→Prop} {ks:List Nat} {Good:World→Prop} {n:Nat} {F:List (Nat × Value)} {w:World} {op:Op} {ty:TypeId} {v:Value} {fuel:Nat} {l:List Nat} {pos:String} {aft:Array Edge} {d:Nat}
def remI (a:Int) (n:Nat):Int:=Int.tmod a (n:Int)
theorem lM (a:Int) {n:Nat} (h:0 < n): -((n:Nat):Int) < remI a n∧remI a n < ((n:Nat):Int):=by
  unfold remI
  refine⟨?_,Int.tmod_lt_of_pos a (by omega)⟩
  rcases Int.le_total 0 a with c | c
  · have:=Int.tmod_nonneg (b:=(n:Int)) c; omega
  · have e:(-a).tmod (n:Int) < n:=Int.tmod_lt_of_pos (-a) (by omega)
    rw [Int.neg_tmod] at e; omega
theorem pR {a:Int} {n:Nat} (h:0≤a):0≤remI a n:=Int.tmod_nonneg _ h
def GY (P:Program) (ops:Array Oper) (Q:Exit→Act→World→Prop) (ks:List Nat) (Good:World→Prop) (fuel:Nat) (l:List Nat) (n:Nat) (F:List (Nat × Value)) (w:World) (i:Nat):Prop:=
  fD Q→Region.noSelect ops=true→GO P ops Q (iO ks Good) fuel (mi ops.size l) n F w i
theorem GY.do (i:Nat) (hi:ops[i]? =some ⟨some d,op,ty,pos,aft,none⟩) (hk:Nat.blt d n=true)
    (h:Do P n F w op ty fun v w'=>(ks.any (fun k=>(mi ops.size (i::l)).getD k false)=true∨Good w')∧GX P ops Q ks Good fuel (i::l) n ((d,v)::F) w'):GY P ops Q ks Good fuel l n F w i:=fun hQ hs=>
  GO.do hi hk rfl (h.mono fun v w' k=>⟨k.1,k.2 hQ hs⟩)
theorem AZ (i:Nat) (hi:ops[i]? =some ⟨none,op,ty,pos,aft,none⟩) (hk:true=true)
    (h:Do P n F w op ty fun _ w'=>(ks.any (fun k=>(mi ops.size (i::l)).getD k false)=true∨Good w')∧GX P ops Q ks Good fuel (i::l) n F w'):GY P ops Q ks Good fuel l n F w i:=fun hQ hs=>
  Aq hi rfl (h.mono fun v w' k=>⟨k.1,k.2 hQ hs⟩)
end
end Go.Proofs.YtcnkpjheifkgnaaGreat
