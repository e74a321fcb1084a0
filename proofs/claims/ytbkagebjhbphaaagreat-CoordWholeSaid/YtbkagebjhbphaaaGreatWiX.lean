/-
  A shift by a number that varies.
  Conditions: none.
-/
import Derived.Test.YtbkagebjhbphaaaGreatKx
import Derived.Test.YtbkagebjhbphaaaGreatKm
import Derived.MapKept
namespace Go.Proofs.YtbkagebjhbphaaaGreat
set_option linter.unusedVariables false
set_option linter.unusedSimpArgs false
open Go.RowKit
section
variable {P:Program} {n:Nat} {F:List (Nat × Value)} {w w0:World} {D:Nat→Prop} {L:List HP} {op:Op} {ty:TypeId} {ops:Array Oper} {rest:List Oper} {Q:Exit→Act→World→Prop} {pos:String} {aft:Array Edge} {d:Nat} {v:Value} {x:Operand} {K:Act→World→Prop}
theorem nt {y:Code} (h:Wp P y n F w Q):WL P ops (Exit.then (fun a w=>y.wp P Q a w) Q) [] n F w:=WL.nil (Iq h)
theorem sr {i:Nat} {l:List Oper} {y:Code} (h:WL P l.toArray (Exit.then (fun a w=>y.wp P Q a w) Q) l n F w):Wp P (.seq (.region i l.toArray false) y) n F w Q:=Ik (Il h)
theorem ns {i:Nat} {l:List Oper} {y:Code} (h:WL P l.toArray (Exit.then (fun a w=>y.wp P Q a w) Q) l n F w):WL P ops (Exit.then (fun a w=>(Code.seq (.region i l.toArray false) y).wp P Q a w) Q) [] n F w:=nt (sr h)
theorem Az (hx:ev F x=some v) (h:WL P ops Q rest n ((d,v)::F) w) (hd:Nat.blt d n=true:=by exact rfl):WL P ops Q (⟨some d, .assign x,ty,pos,aft,none⟩::rest) n F w:=As hd hx h
theorem Mz (hx:ev F x=some v) (h:WL P ops Q rest n ((d,v)::F) w) (hd:Nat.blt d n=true:=by exact rfl):WL P ops Q (⟨some d, .move x,ty,pos,aft,none⟩::rest) n F w:=Mv hd hx h
theorem An {y:Code} (hx:ev F x=some v) (h:Wp P y n ((d,v)::F) w Q) (hd:Nat.blt d n=true:=by exact rfl):WL P ops (Exit.then (fun a w=>y.wp P Q a w) Q) [⟨some d, .assign x,ty,pos,aft,none⟩] n F w:=As hd hx (nt h)
theorem Ar {i:Nat} {l:List Oper} {y:Code} (hx:ev F x=some v) (h:WL P l.toArray (Exit.then (fun a w=>y.wp P Q a w) Q) l n ((d,v)::F) w) (hd:Nat.blt d n=true:=by exact rfl):WL P ops (Exit.then (fun a w=>(Code.seq (.region i l.toArray false) y).wp P Q a w) Q) [⟨some d, .assign x,ty,pos,aft,none⟩] n F w:=As hd hx (ns h)
theorem Mn {y:Code} (hx:ev F x=some v) (h:Wp P y n ((d,v)::F) w Q) (hd:Nat.blt d n=true:=by exact rfl):WL P ops (Exit.then (fun a w=>y.wp P Q a w) Q) [⟨some d, .move x,ty,pos,aft,none⟩] n F w:=Mv hd hx (nt h)
theorem jT {c:Operand} {x y:Code} {b:Bool} (hb:b=true) (ht:Wp P x n F w Q) (hc:ev F c=some (.bool b):=by exact rfl):Wp P (.cond c x y) n F w Q:=J8 hc hb ht
theorem jF {c:Operand} {x y:Code} {b:Bool} (hb:b=false) (hf:Wp P y n F w Q) (hc:ev F c=some (.bool b):=by exact rfl):Wp P (.cond c x y) n F w Q:=J9 hc hb hf
theorem jt {c:Operand} {x y:Code} (ht:Wp P x n F w Q) (hc:ev F c=some (.bool true):=by exact rfl):Wp P (.cond c x y) n F w Q:=J8 hc rfl ht
theorem jf {c:Operand} {x y:Code} (hf:Wp P y n F w Q) (hc:ev F c=some (.bool false):=by exact rfl):Wp P (.cond c x y) n F w Q:=J9 hc rfl hf
theorem dT {p:Prop} [i:Decidable p] (h:p):decide p=true:=decide_eq_true h
theorem dF {p:Prop} [i:Decidable p] (h: ¬ p):decide p=false:=decide_eq_false h
theorem et {α:Type} {a b c:α} (h:a=b) (k:b=c):a=c:=h.trans k
theorem ip {c:Prop} [h:Decidable c] (hc:c) {α:Type} {t e:α}:ite c t e=t:=if_pos hc
theorem iN {c:Prop} [h:Decidable c] (hc: ¬ c) {α:Type} {t e:α}:ite c t e=e:=if_neg hc
theorem fw (v:Value) (hy:Yl P n F w op ty v) (h:WL P ops Q rest n ((d,v)::F) w) (hd:Nat.blt d n=true:=by exact rfl):WL P ops Q (⟨some d,op,ty,pos,aft,none⟩::rest) n F w:=WL.val hd hy h
theorem yk (hk:known F op.operands.toList=true:=by exact rfl) (hs:pI op=true:=by exact rfl) (hr:∀ W,(execOp (og F) ⟨none,op,ty, "", #[],none⟩).run P W= .ok (.value v) W:=by intro _; kernel_rfl):Yl P n F w op ty v:=JI hk hs hr
theorem df (vs:List Value) (o:Nat) {T:TypeId} {y:Operand} {g:Nat} {cs:List Value} {t:TypeId} (H:Own w0 D w (blk g cs t::L)) (hS:∀ W,(sizeOf T).run P W= .ok vs.length W) (h:∀ w',Own w0 D w' (blk g (put cs o vs) t::L)→WL P ops Q rest n F w')
    (hx:ev F x=some (.pointer (some ⟨g,o,none⟩)):=by exact rfl) (hy:ev F y=some v:=by exact rfl) (hv:v.cells=vs.toArray:=by exact rfl) (a:vs.all Value.oneCell'=true:=by exact rfl) (hf:Nat.ble (o+vs.length) cs.length=true:=by exact rfl):
    WL P ops Q (⟨none, .store T x y,ty,pos,aft,none⟩::rest) n F w:=Jz (Do.store H hx hy hS hv a hf rfl h)
theorem dn (cs:List Value) (t:TypeId) (H:Own w0 D w L) (h:∀ g w',Own w0 D w' (blk g cs t::L)→WL P ops Q rest n ((d, .pointer (some ⟨g,0,none⟩))::F) w') (hd:Nat.blt d n=true:=by exact rfl) (hk:known F op.operands.toList=true:=by exact rfl) (a:pI op=true:=by exact rfl)
    (hr:∀ W,(execOp (og F) ⟨none,op,ty, "", #[],none⟩).run P W= .ok (.value (.pointer (some ⟨W.heap.size,0,none⟩))) (W.alloc (.cells cs.toArray t (0,0))):=by intro _; kernel_rfl):WL P ops Q (⟨some d,op,ty,pos,aft,none⟩::rest) n F w:=WL.do hd (Jb H hk a hr h)
theorem jV (cs:List Value) (t:TypeId) (sz m:Nat) (H:Own w0 D w L) (h:∀ A w',Own w0 D w' (row A m m cs t sz::L)→WL P ops Q rest n ((d, .slice A m m)::F) w') (hd:Nat.blt d n=true:=by exact rfl) (hk:known F op.operands.toList=true:=by exact rfl) (a:pI op=true:=by exact rfl)
    (hr:∀ W,(execOp (og F) ⟨none,op,ty, "", #[],none⟩).run P W= .ok (.value (.slice (some ⟨W.heap.size,0,none⟩) m m)) (W.alloc (.cells cs.toArray t (0,0))):=by intro _; kernel_rfl) (hl:cs.length=m *sz:=by exact rfl) (hm:m≤4294967296:=by decide):
    WL P ops Q (⟨some d,op,ty,pos,aft,none⟩::rest) n F w:=WL.do hd (Jq H hk a hr hl hm h)
theorem cl {f:FuncId} {args:List Operand} {vals:List Value} {tys:Array TypeId} {R:Value→World→Prop} (hf:∀ (b:Array Value) W,(callFunc f b).run P W= .ok (.enter f b) W) (hc:Calls P f vals.toArray w (dA R)) (h:∀ v w',R v w'→WL P ops Q rest n ((d,v)::F) w')
    (hd:Nat.blt d n=true:=by exact rfl) (ha:vE F args=some vals:=by exact rfl):WL P ops Q (⟨some d, .call ⟨.value (.func f),args.toArray,tys⟩,ty,pos,aft,none⟩::rest) n F w:=WL.do hd (IP hf ha hc h)
theorem rs {fn:Func} {R:Value→World→Prop} {t:Tmp} (h:R v w) (hr:fn.results= #[.tmp t]:=by exact rfl) (hv:look F t=some v:=by exact rfl):Fin (bodyPost P fn (dA R)) .ret n F w:=Fin.res (Ht hr hv) h
theorem IX {x y:HP} (h:x=y) (H:Own w0 D w (x::L)):Own w0 D w (y::L):=h ▸ H
theorem Own.pk {L':List HP} (H:Own w0 D w L) (idx:List Nat) (hn:idx.Nodup:=by decide) (hp:Go.Proofs.YtbkagebjhbphaaaGreat.pk L idx=some L':=by exact rfl):Own w0 D w L':=H.pick idx hn hp
theorem cn {a b:Bool} (h:a=b):(!a)=(!b):=congrArg not h
theorem gw (v:Value) {j t:Nat} {b b':Bool} (hb:b'=b) (hy:Yl P n F w op ty v) (h:WL P ops Q rest n ((d,v)::F) w) (hj:(ops[j]?).bind (·.dst)=some t:=by exact rfl) (hv:look F t=some (.bool b'):=by exact rfl) (hd:Nat.blt d n=true:=by exact rfl):
    WL P ops Q (⟨some d,op,ty,pos,aft,some (j,b)⟩::rest) n F w:=I7 hj hv hb hd hy h
theorem pW {j t:Nat} {b b':Bool} (hb:b'=b) {f:FuncId} {args:List Operand} {vals:List Value} {tys:Array TypeId} {R:Value→World→Prop} (hf:∀ (b:Array Value) W,(callFunc f b).run P W= .ok (.enter f b) W) (hc:Calls P f vals.toArray w (dA R)) (h:∀ v w',R v w'→WL P ops Q rest n ((d,v)::F) w')
    (hj:(ops[j]?).bind (·.dst)=some t:=by exact rfl) (hv:look F t=some (.bool b'):=by exact rfl) (hd:Nat.blt d n=true:=by exact rfl) (ha:vE F args=some vals:=by exact rfl):WL P ops Q (⟨some d, .call ⟨.value (.func f),args.toArray,tys⟩,ty,pos,aft,some (j,b)⟩::rest) n F w:=Ju hj hv hb hd (IP hf ha hc h)
theorem sk {y:Code} (h:Wp P y n F w Q):Wp P .skip n F w (Exit.then (fun a w=>y.wp P Q a w) Q):=IU (Iq h)
theorem tR (h:Fin Q .ret n F w):Fin (Exit.then K Q) .ret n F w:=h
theorem bR {i:Nat} (h:Fin Q .ret n F w):Fin (Exit.inBlock i Q) .ret n F w:=h
theorem bN {i:Nat} (h:Fin Q .normal n F w):Fin (Exit.inBlock i Q) .normal n F w:=h
theorem rt (h:Fin Q .ret n F w):Wp P .ret n F w Q:=Wp.ret h
theorem bo {i:Nat} {c:Code} (h:Wp P c n F w (Exit.inBlock i Q)):Wp P (.block i c) n F w Q:=Wp.block h
end
end Go.Proofs.YtbkagebjhbphaaaGreat
namespace Go.Proofs.YtbkagebjhbphaaaGreat
set_option linter.unusedVariables false
set_option linter.unusedSimpArgs false
set_option linter.unusedSectionVars false
open Go.RowKit
section
variable {κ ν:Type} [DecidableEq κ]
end
structure Ii {κ:Type} (P:Program) (kt:TypeId) (ek:κ→Value):Prop where
  key:∃ d,P.underlying kt=some d∧∀ a,Go.MapKept.IsKey d (ek a)
  inj:∀ a b,ek a=ek b→a=b
  same:∀ a,Instr.sameBits 10000 (ek a) (ek a)=true
section
variable {κ ν:Type} [DecidableEq κ] {P:Program} {n:Nat} {F:List (Nat × Value)} {w0 w:World} {D:Nat→Prop} {L:List HP} {ty t kt e:TypeId} {K:Value→World→Prop} {x y q:Operand} {ek:κ→Value} {vv:ν→Value} {m:List (κ × ν)} {g i:Nat} {z:Value} {d0:ν}
theorem yU {L:List HP} (h:∀ R ∈ L,R fun _=>none):sepL L fun _=>none:=⟨fun _ _=>none,fun i R hi=>h R (List.mem_of_getElem? hi),fun _ _ _ hk=>(by cases hk),fun _ _ _ _=> .inl rfl⟩
theorem uQ {α:Type} {f:α→List HP} {x:α} {n:Nat} (h:∀ R ∈ f x,R fun _=>none):sepL (List.flatMap f (List.replicate n x)) fun _=>none:=yU fun R hR=>by
  obtain⟨y,hy,hR⟩:=List.mem_flatMap.1 hR
  rw [(List.mem_replicate.1 hy).2] at hR
  exact h R hR
theorem wX {R:HP} (h:R fun _=>none):∀ S ∈ [R],S fun _=>none:=fun S hS=>by rw [List.mem_singleton.1 hS]; exact h
end
end Go.Proofs.YtbkagebjhbphaaaGreat
namespace Go.Proofs.YtbkagebjhbphaaaGreat
set_option linter.unusedVariables false
set_option linter.unusedSimpArgs false
set_option linter.unusedSectionVars false
open Go.RowKit
structure Ij {κ:Type} (P:Program) (kt:TypeId) (ek:κ→Value):Prop where
  check:∀ (em:Bool) (a:κ) (w:World),(Instr.checkKey em 10000 kt (ek a)).run P w= .ok () w
  find:∀ (a:κ) (w:World) (es:List MapEntry) (ks:List κ),es.map (·.key)=ks.map ek→
    ((Instr.findKey kt (ek a) es).run P w= .ok none w∧a ∉ ks)∨∃ j e,(Instr.findKey kt (ek a) es).run P w= .ok (some (j,e.val)) w∧es[j]? =some e∧ks[j]? =some a
  stay:∀ (a:κ) (w:World),(Instr.keyThatStays (ek a) (ek a)).run P w= .ok (ek a) w
section
variable {κ:Type} [DecidableEq κ] {P:Program} {kt:TypeId} {ek:κ→Value}
end
section
variable {P:Program} {t:TypeId} {k:IntKind}
end
section
variable {κ ν δ τ:Type} [DecidableEq κ]
theorem getD_some {o:Option ν} {d x:ν} (h:o=some x):Option.getD o d=x:=by rw [h]; rfl
end
section
variable {κ ν:Type} [DecidableEq κ] {P:Program} {n:Nat} {F:List (Nat × Value)} {w0 w:World} {D:Nat→Prop} {L:List HP} {ty t kt e:TypeId} {K:Value→World→Prop} {x y q:Operand} {ek:κ→Value} {vv:ν→Value} {m:List (κ × ν)} {g i:Nat} {z:Value} {d0:ν}
end
section
variable {κ δ τ:Type} [DecidableEq κ] {abs:δ→τ} {m:List (κ × δ)} {mab:List (κ × τ)} {k:κ}
end
end Go.Proofs.YtbkagebjhbphaaaGreat
namespace Go.Proofs.YtbkagebjhbphaaaGreat
open Go.RowKit
section
variable {P:Program} {n:Nat} {F:List (Nat × Value)} {w:World} {ty:TypeId} {x y:Operand}
end
end Go.Proofs.YtbkagebjhbphaaaGreat
