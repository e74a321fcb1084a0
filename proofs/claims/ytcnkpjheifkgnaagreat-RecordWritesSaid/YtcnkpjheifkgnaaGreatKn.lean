/-
  Several effects of a region may come up at once; the greater of two strings.
  Conditions: none beyond each law's own.
-/
import Derived.Test.YtcnkpjheifkgnaaGreatKm
import Derived.Lib.MinMaxS
namespace Go.Proofs.YtcnkpjheifkgnaaGreat
set_option linter.unusedVariables false
set_option linter.unusedSimpArgs false
open Go.RowKit
section
variable {P:Program} {ops:Array Oper} {Q:Exit→Act→World→Prop} {ks:List Nat} {Good:World→Prop} {n:Nat} {F:List (Nat × Value)} {w:World} {op:Op} {ty:TypeId} {v:Value} {fuel:Nat} {l:List Nat} {pos:String} {aft:Array Edge} {d:Nat}
def GY (P:Program) (ops:Array Oper) (Q:Exit→Act→World→Prop) (ks:List Nat) (Good:World→Prop) (fuel:Nat) (l:List Nat) (n:Nat) (F:List (Nat × Value)) (w:World) (i:Nat):Prop:=
  bP Q→Region.noSelect ops=true→GO P ops Q (kw ks Good) fuel (oq ops.size l) n F w i
def Bl (ops:Array Oper) (rs:List Nat) (l:List Nat):Bool:=decide (Region.ready .any ops (oq ops.size l)=rs)
theorem DJ (i j:Nat) (hk:Bl ops [i,j] l=true) (a:GY P ops Q ks Good fuel l n F w i) (b:GY P ops Q ks Good fuel l n F w j):GX P ops Q ks Good (fuel+1) l n F w:=fun hQ hs=>by
  refine GW.any (of_decide_eq_true hk) rfl fun q hq=> ?_
  rcases List.mem_cons.1 hq with rfl | hq
  · exact a hQ hs
  · rw [List.mem_singleton.1 hq]; exact b hQ hs
theorem GY.do (i:Nat) (hi:ops[i]? =some ⟨some d,op,ty,pos,aft,none⟩) (hk:Nat.blt d n=true)
    (h:Do P n F w op ty fun v w'=>(ks.any (fun k=>(oq ops.size (i::l)).getD k false)=true∨Good w')∧GX P ops Q ks Good fuel (i::l) n ((d,v)::F) w'):GY P ops Q ks Good fuel l n F w i:=fun hQ hs=>
  GO.do hi hk rfl (h.mono fun v w' k=>⟨k.1,k.2 hQ hs⟩)
theorem EJ (i:Nat) (hi:ops[i]? =some ⟨none,op,ty,pos,aft,none⟩) (hk:true=true)
    (h:Do P n F w op ty fun _ w'=>(ks.any (fun k=>(oq ops.size (i::l)).getD k false)=true∨Good w')∧GX P ops Q ks Good fuel (i::l) n F w'):GY P ops Q ks Good fuel l n F w i:=fun hQ hs=>
  Er hi rfl (h.mono fun v w' k=>⟨k.1,k.2 hQ hs⟩)
end
end Go.Proofs.YtcnkpjheifkgnaaGreat
