/-
  Steps of walks in fewer words: what can be looked up is looked up; a value's type that can't vary is not said.
  Conditions: none beyond each law's own.
-/
import Derived.Test.YtcnkpjheifkgnaaGreatKq
namespace Go.Proofs.YtcnkpjheifkgnaaGreat
set_option linter.unusedVariables false
set_option linter.unusedSimpArgs false
open Go.RowKit
theorem qQ {A:Option Addr} {m c sz:Nat} {xs:List Value} {t:TypeId} (w':World) (h:Nat→Option Obj) (hr:row A m c xs t sz h) (_:∀ k o,h k=some o→w'.heap[k]? =some o):m≤c∧m≤9223372036854775807:=by
  obtain⟨_,hr⟩:=hr
  rcases hr with ⟨_,e,a⟩ | ⟨g,cur,fz,_,_,a,b,_⟩
  · omega
  · unfold maxLen at b; omega
section
variable {P:Program} {n:Nat} {F:List (Nat × Value)} {w w0:World} {D:Nat→Prop} {L:List HP} {op:Op} {ty:TypeId} {ops:Array Oper} {rest:List Oper} {Q:Exit→Act→World→Prop} {pos:String} {aft:Array Edge} {d:Nat}
theorem Kz (v:Value) (h:WL P ops Q rest n ((d,v)::F) w) (hd:Nat.blt d n=true:=by exact rfl) (hk:known F op.operands.toList=true:=by exact rfl) (hs:nJ op=true:=by exact rfl)
    (hr:∀ W,(execOp (mP F) ⟨none,op,ty, "", #[],none⟩).run P W= .ok (.value v) W:=by intro _; kernel_rfl):WL P ops Q (⟨some d,op,ty,pos,aft,none⟩::rest) n F w:=Kn hd hk hs hr h
theorem Gz (v:Value) {j t:Nat} {b b':Bool} (hb:b'=b) (h:WL P ops Q rest n ((d,v)::F) w) (hj:(ops[j]?).bind (·.dst)=some t:=by exact rfl) (hv:look F t=some (.bool b'):=by exact rfl) (hd:Nat.blt d n=true:=by exact rfl)
    (hk:known F op.operands.toList=true:=by exact rfl) (hs:nJ op=true:=by exact rfl) (hr:∀ W,(execOp (mP F) ⟨none,op,ty, "", #[],none⟩).run P W= .ok (.value v) W:=by intro _; kernel_rfl):
    WL P ops Q (⟨some d,op,ty,pos,aft,some (j,b)⟩::rest) n F w:=CO hj hv hb hd (DF hk hs hr) h
theorem CY {ι:Type} (k:Nat) (Fj:ι→List (Nat × Value)) (S:ι→World→Prop) (h:(∀ i w' F',S i w'→qj (Fj i) F'→WL P ops Q (rest.drop k) n F' w')→WL P ops Q rest n F w) (hK:∀ i w',S i w'→WL P ops Q (rest.drop k) n (Fj i) w'):WL P ops Q rest n F w:=
  h fun i w' F' hs hsub a ha=>hK i w' hs a (ha.sub hsub)
theorem Sz {j t:Nat} {b b':Bool} (hb:b'= !b) (h:WL P ops Q rest n ((d,undef)::F) w) (hj:(ops[j]?).bind (·.dst)=some t:=by exact rfl) (hv:look F t=some (.bool b'):=by exact rfl) (hd:Nat.blt d n=true:=by exact rfl):
    WL P ops Q (⟨some d,op,ty,pos,aft,some (j,b)⟩::rest) n F w:=DU hj hv hb hd h
theorem Lz (v:Value) {x:Operand} {T:TypeId} {g o:Nat} {cs:List Value} {t:TypeId} (H:Own w0 D w L) (i:Nat) (ha:∀ W,(isAgg T).run P W= .ok false W) (h:WL P ops Q rest n ((d,v)::F) w)
    (hi:L[i]? =some (blk g cs t):=by exact rfl) (hx:ev F x=some (.pointer (some ⟨g,o,none⟩)):=by exact rfl) (hv:cs[o]? =some v:=by exact rfl) (hd:Nat.blt d n=true:=by exact rfl):
    WL P ops Q (⟨some d, .load T x,ty,pos,aft,none⟩::rest) n F w:=WL.val hd (Cc hx (bi.one ha (Cv (H.cls hi) hv))) h
theorem Gl (v:Value) {x:Operand} {T:TypeId} {g o:Nat} {cs:List Value} {t:TypeId} {j q:Nat} {b b':Bool} (hb:b'=b) (H:Own w0 D w L) (i:Nat) (ha:∀ W,(isAgg T).run P W= .ok false W) (h:WL P ops Q rest n ((d,v)::F) w)
    (hi:L[i]? =some (blk g cs t):=by exact rfl) (hx:ev F x=some (.pointer (some ⟨g,o,none⟩)):=by exact rfl) (hv:cs[o]? =some v:=by exact rfl) (hj:(ops[j]?).bind (·.dst)=some q:=by exact rfl) (hl:look F q=some (.bool b'):=by exact rfl) (hd:Nat.blt d n=true:=by exact rfl):
    WL P ops Q (⟨some d, .load T x,ty,pos,aft,some (j,b)⟩::rest) n F w:=CO hj hl hb hd (Cc hx (bi.one ha (Cv (H.cls hi) hv))) h
theorem La (cs:List Value) {x:Operand} {T:TypeId} {g o:Nat} {cs':List Value} {t:TypeId} (H:Own w0 D w L) (i:Nat) (ha:∀ W,(isAgg T).run P W= .ok true W) (hS:∀ W,(sizeOf T).run P W= .ok cs.length W) (h:WL P ops Q rest n ((d, .agg cs.toArray)::F) w)
    (hi:L[i]? =some (blk g cs' t):=by exact rfl) (hx:ev F x=some (.pointer (some ⟨g,o,none⟩)):=by exact rfl) (hv:(cs'.drop o).take cs.length=cs:=by exact rfl) (hd:Nat.blt d n=true:=by exact rfl):
    WL P ops Q (⟨some d, .load T x,ty,pos,aft,none⟩::rest) n F w:=WL.val hd (Cc hx (Cu ha hS (by have:=(H.cls hi).lit (k:=o) hv; rwa [Nat.zero_add] at this))) h
theorem Ga (cs:List Value) {x:Operand} {T:TypeId} {g o:Nat} {cs':List Value} {t:TypeId} {j q:Nat} {b b':Bool} (hb:b'=b) (H:Own w0 D w L) (i:Nat) (ha:∀ W,(isAgg T).run P W= .ok true W) (hS:∀ W,(sizeOf T).run P W= .ok cs.length W) (h:WL P ops Q rest n ((d, .agg cs.toArray)::F) w)
    (hi:L[i]? =some (blk g cs' t):=by exact rfl) (hx:ev F x=some (.pointer (some ⟨g,o,none⟩)):=by exact rfl) (hv:(cs'.drop o).take cs.length=cs:=by exact rfl) (hj:(ops[j]?).bind (·.dst)=some q:=by exact rfl) (hl:look F q=some (.bool b'):=by exact rfl) (hd:Nat.blt d n=true:=by exact rfl):
    WL P ops Q (⟨some d, .load T x,ty,pos,aft,some (j,b)⟩::rest) n F w:=CO hj hl hb hd (Cc hx (Cu ha hS (by have:=(H.cls hi).lit (k:=o) hv; rwa [Nat.zero_add] at this))) h
end
section
variable {α γ:Type}
end
theorem Au {w:World} {sz n m:Nat} {A:Option Addr} {xs:List Value} (e:n=m) (h:bG w sz A n xs):bG w sz A m xs:=by subst e; exact h
end Go.Proofs.YtcnkpjheifkgnaaGreat
