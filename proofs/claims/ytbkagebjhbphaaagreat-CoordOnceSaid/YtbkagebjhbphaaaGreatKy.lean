/-
  Steps of walks in one word: several at a time, what can be looked up is looked up.
  Conditions: none beyond each law's own.
-/
import Derived.Test.YtbkagebjhbphaaaGreatKp
import Derived.Test.YtbkagebjhbphaaaGreatKh
namespace Go.Proofs.YtbkagebjhbphaaaGreat
set_option linter.unusedVariables false
set_option linter.unusedSimpArgs false
open Go.RowKit
section
variable {P:Program} {n:Nat} {F:List (Nat × Value)} {w0 w:World} {D:Nat→Prop} {L:List HP} {op:Op} {ty:TypeId} {v:Value} {K:Value→World→Prop} {x y:Operand} {T t:TypeId} {xs vs ys news:List Value}
def di (a b:Nat):Nat:=Int.toNat (IntKind.u64.wrap (((BitVec.ofInt 64 (a:Int) ||| BitVec.ofInt 64 (b:Int)).toNat:Nat):Int))
def eU (a b:Nat):Nat:=Int.toNat (IntKind.u64.wrap ((a:Int) *2 ^ (min b 64)))
theorem pR (a b:Nat):di a b≤18446744073709551615:=by unfold di; simp only [IntKind.wrap,IntKind.signed,IntKind.bits]; simp; omega
theorem nZ (a b:Nat):eU a b≤18446744073709551615:=by unfold eU; simp only [IntKind.wrap,IntKind.signed,IntKind.bits]; simp; omega
theorem mh (x:Int):Int.toNat (IntKind.u64.wrap x)≤18446744073709551615:=by simp only [IntKind.wrap,IntKind.signed,IntKind.bits]; simp; omega
theorem yO (x:Nat):IntKind.u8.wrap ((x:Nat):Int)=((UInt8.ofNat x).toNat:Int):=by
  simp [IntKind.wrap,IntKind.signed,IntKind.bits]
theorem u8_or (a b:UInt8):IntKind.u8.wrap (((BitVec.ofInt 8 ((a.toNat:Nat):Int) ||| BitVec.ofInt 8 ((b.toNat:Nat):Int)).toNat:Nat):Int)=((a ||| b).toNat:Int):=by
  rw [yO]
  have e:(BitVec.ofInt 8 ((a.toNat:Nat):Int) ||| BitVec.ofInt 8 ((b.toNat:Nat):Int)).toNat=(a ||| b).toNat:=by
    rw [BitVec.ofInt_natCast,BitVec.ofInt_natCast,UInt8.toNat_or,BitVec.toNat_or,BitVec.toNat_ofNat,BitVec.toNat_ofNat,Nat.mod_eq_of_lt a.toNat_lt,Nat.mod_eq_of_lt b.toNat_lt]
  rw [e]; simp
theorem Jv {k k':IntKind} {a:Int} {m:Nat} {xo yo:Operand} {t':TypeId} (hx:ev F xo=some (.int k a)) (hy:ev F yo=some (.int k' ((m:Nat):Int))):Yl P n F w (.binOp .shl t xo yo t') ty (.int k (k.wrap (a *2 ^ (min m k.bits)))):=fun ac hag o b _=>by
  unfold execOp
  rw [b]
  have hg:(eqGuard .shl t xo yo (.int k a) (.int k' ((m:Nat):Int))).run P w= .ok () w:=rfl
  simp only [hag.eval hx,hag.eval hy,Sem.run_bind,hg,Result.andThen_ok]
  have hs:(Op.shift .shl k a k' ((m:Nat):Int)).run P w= .ok (.int k (k.wrap (a *2 ^ (min m k.bits)))) w:=by
    unfold Op.shift
    rw [if_neg e6]; rfl
  simp [binOp,hs]
def lY (l n:Nat):Prop:=n *128 ^ l≤18446744073709551615
theorem lY.zero {n:Nat} (h:n≤18446744073709551615):lY 0 n:=by unfold lY; omega
theorem lY.step {l l' n:Nat} (h:lY l n) (hl:l'=l+1):lY l' (n / 128):=by
  subst hl
  unfold lY at *
  rw [Nat.pow_succ,Nat.mul_comm (128 ^ l) 128, ← Nat.mul_assoc]
  exact Nat.le_trans (Nat.mul_le_mul_right _ (Nat.div_mul_le_self n 128)) h
theorem lY.le {l n:Nat} (h:lY l n) (hn:128≤n):l≤8:=by
  unfold lY at h
  rcases Nat.lt_or_ge 8 l with a | a
  · have b:128 ^ 9≤128 ^ l:=Nat.pow_le_pow_right f4 a
    have c:128 *128 ^ 9≤n *128 ^ l:=Nat.mul_le_mul hn b
    have e:128 *128 ^ 9=1180591620717411303424:=by decide
    omega
  · exact a
def Am (n l:Nat):Prop:=1≤l∧∀ k,n < 128 ^ k *128→l≤k+1
theorem Am.one {n l:Nat} (h:l=1):Am n l:=⟨e6,fun k _=>by omega⟩
theorem Am.step {n l l':Nat} (hn: ¬ n < 128) (h:Am (n / 128) l) (hl:l'=l+1):Am n l':=
  ⟨e6,fun k hk=>by
    cases k with
    | zero=>omega
    | succ k=>
      have a:n / 128 < 128 ^ k *128:=Nat.div_lt_of_lt_mul (by rw [Nat.pow_succ] at hk; omega)
      have:=h.2 k a
      omega⟩
theorem KI {m e size bytes:Nat} {lx cx:Operand} {kl kc:IntKind} {z:Value} (ht:P.underlying t=some (.slice e)) (hi:(P.info? e).map (fun i=>(i.zero,i.size,i.bytes))=some (some z,size,bytes)) (H:Own w0 D w L) (hl:ev F lx=some (.int kl 0)) (hc:ev F cx=some (.int kc (m:Int)))
    (hb:bytes *m≤281474976710656) (hm:m≤maxLen) (h:∀ A w',Own w0 D w' (row A 0 m [] e size::L)→K (.slice A 0 m) w'):Do P n F w (.makeSlice t lx cx) ty K:=fun a ha o c f next Q hn=>by
  obtain⟨i,b,hz,rfl,rfl⟩:=info_parts hi
  have hm':(m:Int)≤9223372036854775807:=by unfold maxLen at hm; omega
  have hb':(i.bytes:Int) *(m:Int)≤281474976710656:=by
    have h:((i.bytes *m:Nat):Int)≤281474976710656:=by omega
    rwa [Int.natCast_mul] at h
  have hr:=run_make (P:=P) w t e i z ht b hz kl kc 0 m (Int.le_refl _) e6 hb' hm'
  simp only [Int.toNat_natCast,Int.toNat_zero] at hr
  unfold execOp
  rw [c]
  simp only [ha.eval hl,ha.eval hc,Sem.run_bind,Sem.run_pure,Result.andThen_ok,hr]
  refine hn _ _ (h _ _ (H.alloc _ ⟨by simp, .inr ⟨w.heap.size,_,(0,0),rfl,by simp; rfl,Lg _,hm,size_madeCells _ _,by simp,vG.zero _⟩⟩))
theorem ER {l:List UInt8} {m:Nat} {tx:TypeId} (hk:P.underlying tx=some .string) (hm:m=List.length l):Src P 1 tx (.string ⟨l.toArray⟩) m (List.flatMap eB l) w:=by
  subst hm
  have h:=Src.ofString (P:=P) (w:=w) hk ⟨l.toArray⟩
  have e:byteCells (⟨l.toArray⟩:ByteArray)=List.flatMap eB l:=by rw [CU]; simp [byteCells]
  rw [e] at h
  have a:(⟨l.toArray⟩:ByteArray).size=l.length:=by simp [ByteArray.size]
  rw [a] at h
  exact h
end
end Go.Proofs.YtbkagebjhbphaaaGreat
namespace Go.Proofs.YtbkagebjhbphaaaGreat
set_option linter.unusedVariables false
set_option linter.unusedSimpArgs false
section
variable {β:Type} [Bk β] {s:Sv β} {x:β}
end
end Go.Proofs.YtbkagebjhbphaaaGreat
namespace Go.Proofs.YtbkagebjhbphaaaGreat
set_option linter.unusedVariables false
set_option linter.unusedSimpArgs false
open Go.RowKit
theorem aW {A:Option Addr} {m c sz:Nat} {xs:List Value} {t:TypeId} (w':World) (h:Nat→Option Obj) (hr:row A m c xs t sz h) (_:∀ k o,h k=some o→w'.heap[k]? =some o):m≤c∧m≤9223372036854775807:=by
  obtain⟨_,hr⟩:=hr
  rcases hr with ⟨_,e,a⟩ | ⟨g,cur,fz,_,_,a,b,_⟩
  · omega
  · unfold maxLen at b; omega
section
variable {P:Program} {n:Nat} {F:List (Nat × Value)} {w w0:World} {D:Nat→Prop} {L:List HP} {op:Op} {ty:TypeId} {ops:Array Oper} {rest:List Oper} {Q:Exit→Act→World→Prop} {pos:String} {aft:Array Edge} {d:Nat}
theorem Kz (v:Value) (h:WL P ops Q rest n ((d,v)::F) w) (hd:Nat.blt d n=true:=by exact rfl) (hk:known F op.operands.toList=true:=by exact rfl) (hs:p9 op=true:=by exact rfl)
    (hr:∀ W,(execOp (oQ F) ⟨none,op,ty, "", #[],none⟩).run P W= .ok (.value v) W:=by intro _; kernel_rfl):WL P ops Q (⟨some d,op,ty,pos,aft,none⟩::rest) n F w:=Kn hd hk hs hr h
theorem Gz (v:Value) {j t:Nat} {b b':Bool} (hb:b'=b) (h:WL P ops Q rest n ((d,v)::F) w) (hj:(ops[j]?).bind (·.dst)=some t:=by exact rfl) (hv:look F t=some (.bool b'):=by exact rfl) (hd:Nat.blt d n=true:=by exact rfl)
    (hk:known F op.operands.toList=true:=by exact rfl) (hs:p9 op=true:=by exact rfl) (hr:∀ W,(execOp (oQ F) ⟨none,op,ty, "", #[],none⟩).run P W= .ok (.value v) W:=by intro _; kernel_rfl):
    WL P ops Q (⟨some d,op,ty,pos,aft,some (j,b)⟩::rest) n F w:=I1 hj hv hb hd (Jy hk hs hr) h
theorem Sz {j t:Nat} {b b':Bool} (hb:b'= !b) (h:WL P ops Q rest n ((d,undef)::F) w) (hj:(ops[j]?).bind (·.dst)=some t:=by exact rfl) (hv:look F t=some (.bool b'):=by exact rfl) (hd:Nat.blt d n=true:=by exact rfl):
    WL P ops Q (⟨some d,op,ty,pos,aft,some (j,b)⟩::rest) n F w:=J2 hj hv hb hd h
theorem Lz (v:Value) {x:Operand} {T:TypeId} {g o:Nat} {cs:List Value} {t:TypeId} (H:Own w0 D w L) (i:Nat) (ha:∀ W,(isAgg T).run P W= .ok false W) (h:WL P ops Q rest n ((d,v)::F) w)
    (hi:L[i]? =some (blk g cs t):=by exact rfl) (hx:ev F x=some (.pointer (some ⟨g,o,none⟩)):=by exact rfl) (hv:cs[o]? =some v:=by exact rfl) (hd:Nat.blt d n=true:=by exact rfl):
    WL P ops Q (⟨some d, .load T x,ty,pos,aft,none⟩::rest) n F w:=WL.val hd (Io hx (bZ.one ha (jR.of (H.cls hi) hv))) h
theorem Gl (v:Value) {x:Operand} {T:TypeId} {g o:Nat} {cs:List Value} {t:TypeId} {j q:Nat} {b b':Bool} (hb:b'=b) (H:Own w0 D w L) (i:Nat) (ha:∀ W,(isAgg T).run P W= .ok false W) (h:WL P ops Q rest n ((d,v)::F) w)
    (hi:L[i]? =some (blk g cs t):=by exact rfl) (hx:ev F x=some (.pointer (some ⟨g,o,none⟩)):=by exact rfl) (hv:cs[o]? =some v:=by exact rfl) (hj:(ops[j]?).bind (·.dst)=some q:=by exact rfl) (hl:look F q=some (.bool b'):=by exact rfl) (hd:Nat.blt d n=true:=by exact rfl):
    WL P ops Q (⟨some d, .load T x,ty,pos,aft,some (j,b)⟩::rest) n F w:=I1 hj hl hb hd (Io hx (bZ.one ha (jR.of (H.cls hi) hv))) h
theorem La (cs:List Value) {x:Operand} {T:TypeId} {g o:Nat} {cs':List Value} {t:TypeId} (H:Own w0 D w L) (i:Nat) (ha:∀ W,(isAgg T).run P W= .ok true W) (hS:∀ W,(sizeOf T).run P W= .ok cs.length W) (h:WL P ops Q rest n ((d, .agg cs.toArray)::F) w)
    (hi:L[i]? =some (blk g cs' t):=by exact rfl) (hx:ev F x=some (.pointer (some ⟨g,o,none⟩)):=by exact rfl) (hv:(cs'.drop o).take cs.length=cs:=by exact rfl) (hd:Nat.blt d n=true:=by exact rfl):
    WL P ops Q (⟨some d, .load T x,ty,pos,aft,none⟩::rest) n F w:=WL.val hd (Io hx (Iy ha hS (by have:=(H.cls hi).lit (k:=o) hv; rwa [Nat.zero_add] at this))) h
theorem Ga (cs:List Value) {x:Operand} {T:TypeId} {g o:Nat} {cs':List Value} {t:TypeId} {j q:Nat} {b b':Bool} (hb:b'=b) (H:Own w0 D w L) (i:Nat) (ha:∀ W,(isAgg T).run P W= .ok true W) (hS:∀ W,(sizeOf T).run P W= .ok cs.length W) (h:WL P ops Q rest n ((d, .agg cs.toArray)::F) w)
    (hi:L[i]? =some (blk g cs' t):=by exact rfl) (hx:ev F x=some (.pointer (some ⟨g,o,none⟩)):=by exact rfl) (hv:(cs'.drop o).take cs.length=cs:=by exact rfl) (hj:(ops[j]?).bind (·.dst)=some q:=by exact rfl) (hl:look F q=some (.bool b'):=by exact rfl) (hd:Nat.blt d n=true:=by exact rfl):
    WL P ops Q (⟨some d, .load T x,ty,pos,aft,some (j,b)⟩::rest) n F w:=I1 hj hl hb hd (Io hx (Iy ha hS (by have:=(H.cls hi).lit (k:=o) hv; rwa [Nat.zero_add] at this))) h
end
section
variable {α γ:Type}
theorem BH {ds:List α} {i:Nat} {x:α} (y:α) (hx:ds[i]? =some x):List.set ds i y=List.take i ds++y::List.drop (i+1) ds:=by
  obtain⟨hi,_⟩:=List.getElem?_eq_some_iff.1 hx
  rw [List.set_eq_take_append_cons_drop,if_pos hi]
theorem DV {ds:List α} {i:Nat} {x:α} (hx:ds[i]? =some x):ds=List.take i ds++x::List.drop (i+1) ds:=by
  have h:=BH x hx
  rw [← h]
  obtain⟨hi,e⟩:=List.getElem?_eq_some_iff.1 hx
  rw [← e,List.set_getElem_self]
theorem Cw {f:α→List γ} {ds:List α} {i:Nat} {x y:α} (hx:ds[i]? =some x) (h:f y=f x):List.flatMap f (List.set ds i y)=List.flatMap f ds:=by
  rw [BH y hx,List.flatMap_append,List.flatMap_cons,h]
  conv=>rhs; rw [DV hx,List.flatMap_append,List.flatMap_cons]
end
theorem qg {w:World} {sz n m:Nat} {A:Option Addr} {xs:List Value} (e:n=m) (h:bE w sz A n xs):bE w sz A m xs:=by subst e; exact h
theorem J4 {α:Type} {sz:Nat} {A:Option Addr} {c:Nat} {l:List α} {A':Option Addr} {c':Nat} {l':List α} {x:α} (h:jL sz A c l A' c' l') (hx:x ∈ l'):x ∈ l:=by
  induction h with
  | nil=>cases hx
  | refl _=>exact hx
  | cut _ _ ih=>exact ih (List.mem_of_mem_drop hx)
end Go.Proofs.YtbkagebjhbphaaaGreat
namespace Go.Proofs.YtbkagebjhbphaaaGreat
open Nat renaming blt→m2
set_option linter.unusedVariables false
set_option linter.unusedSimpArgs false
open Go.RowKit
section
variable {P:Program} {n:Nat} {F:List (Nat × Value)} {w w0:World} {D:Nat→Prop} {L:List HP} {op:Op} {ty:TypeId} {ops:Array Oper} {rest:List Oper} {Q:Exit→Act→World→Prop} {pos:String} {aft:Array Edge} {d:Nat} {v:Value} {x:Operand} {K:Act→World→Prop}
theorem nt {y:Code} (h:Wp P y n F w Q):WL P ops (Exit.then (fun a w=>y.wp P Q a w) Q) [] n F w:=WL.nil (Ig h)
theorem sr {i:Nat} {l:List Oper} {y:Code} (h:WL P l.toArray (Exit.then (fun a w=>y.wp P Q a w) Q) l n F w):Wp P (.seq (.region i l.toArray false) y) n F w Q:=Ic (Ib h)
theorem ns {i:Nat} {l:List Oper} {y:Code} (h:WL P l.toArray (Exit.then (fun a w=>y.wp P Q a w) Q) l n F w):WL P ops (Exit.then (fun a w=>(Code.seq (.region i l.toArray false) y).wp P Q a w) Q) [] n F w:=nt (sr h)
theorem Az (hx:ev F x=some v) (h:WL P ops Q rest n ((d,v)::F) w) (hd:m2 d n=true:=by exact rfl):WL P ops Q (⟨some d, .assign x,ty,pos,aft,none⟩::rest) n F w:=As hd hx h
theorem Mz (hx:ev F x=some v) (h:WL P ops Q rest n ((d,v)::F) w) (hd:m2 d n=true:=by exact rfl):WL P ops Q (⟨some d, .move x,ty,pos,aft,none⟩::rest) n F w:=Mv hd hx h
theorem An {y:Code} (hx:ev F x=some v) (h:Wp P y n ((d,v)::F) w Q) (hd:m2 d n=true:=by exact rfl):WL P ops (Exit.then (fun a w=>y.wp P Q a w) Q) [⟨some d, .assign x,ty,pos,aft,none⟩] n F w:=As hd hx (nt h)
theorem Ar {i:Nat} {l:List Oper} {y:Code} (hx:ev F x=some v) (h:WL P l.toArray (Exit.then (fun a w=>y.wp P Q a w) Q) l n ((d,v)::F) w) (hd:m2 d n=true:=by exact rfl):WL P ops (Exit.then (fun a w=>(Code.seq (.region i l.toArray false) y).wp P Q a w) Q) [⟨some d, .assign x,ty,pos,aft,none⟩] n F w:=As hd hx (ns h)
theorem Mn {y:Code} (hx:ev F x=some v) (h:Wp P y n ((d,v)::F) w Q) (hd:m2 d n=true:=by exact rfl):WL P ops (Exit.then (fun a w=>y.wp P Q a w) Q) [⟨some d, .move x,ty,pos,aft,none⟩] n F w:=Mv hd hx (nt h)
theorem jT {c:Operand} {x y:Code} {b:Bool} (hb:b=true) (ht:Wp P x n F w Q) (hc:ev F c=some (.bool b):=by exact rfl):Wp P (.cond c x y) n F w Q:=JY hc hb ht
theorem jF {c:Operand} {x y:Code} {b:Bool} (hb:b=false) (hf:Wp P y n F w Q) (hc:ev F c=some (.bool b):=by exact rfl):Wp P (.cond c x y) n F w Q:=JZ hc hb hf
theorem jt {c:Operand} {x y:Code} (ht:Wp P x n F w Q) (hc:ev F c=some (.bool true):=by exact rfl):Wp P (.cond c x y) n F w Q:=JY hc rfl ht
theorem jf {c:Operand} {x y:Code} (hf:Wp P y n F w Q) (hc:ev F c=some (.bool false):=by exact rfl):Wp P (.cond c x y) n F w Q:=JZ hc rfl hf
theorem dT {p:Prop} [i:Decidable p] (h:p):decide p=true:=decide_eq_true h
theorem dF {p:Prop} [i:Decidable p] (h: ¬ p):decide p=false:=decide_eq_false h
theorem et {α:Type} {a b c:α} (h:a=b) (k:b=c):a=c:=h.trans k
theorem ip {c:Prop} [h:Decidable c] (hc:c) {α:Type} {t e:α}:ite c t e=t:=if_pos hc
theorem iN {c:Prop} [h:Decidable c] (hc: ¬ c) {α:Type} {t e:α}:ite c t e=e:=if_neg hc
theorem fw (v:Value) (hy:Yl P n F w op ty v) (h:WL P ops Q rest n ((d,v)::F) w) (hd:m2 d n=true:=by exact rfl):WL P ops Q (⟨some d,op,ty,pos,aft,none⟩::rest) n F w:=WL.val hd hy h
theorem yk (hk:known F op.operands.toList=true:=by exact rfl) (hs:p9 op=true:=by exact rfl) (hr:∀ W,(execOp (oQ F) ⟨none,op,ty, "", #[],none⟩).run P W= .ok (.value v) W:=by intro _; kernel_rfl):Yl P n F w op ty v:=Jy hk hs hr
theorem dS (vs:List Value) (o:Nat) {T:TypeId} {y:Operand} {g:Nat} {cs:List Value} {t:TypeId} (H:Own w0 D w (blk g cs t::L)) (hS:∀ W,(sizeOf T).run P W= .ok vs.length W) (h:∀ w',Own w0 D w' (blk g (put cs o vs) t::L)→WL P ops Q rest n F w')
    (hx:ev F x=some (.pointer (some ⟨g,o,none⟩)):=by exact rfl) (hy:ev F y=some v:=by exact rfl) (hv:v.cells=vs.toArray:=by exact rfl) (a:vs.all Value.oneCell'=true:=by exact rfl) (hf:Nat.ble (o+vs.length) cs.length=true:=by exact rfl):
    WL P ops Q (⟨none, .store T x y,ty,pos,aft,none⟩::rest) n F w:=Jb (Do.store H hx hy hS hv a hf rfl h)
theorem dV (cs:List Value) (t:TypeId) (H:Own w0 D w L) (h:∀ g w',Own w0 D w' (blk g cs t::L)→WL P ops Q rest n ((d, .pointer (some ⟨g,0,none⟩))::F) w') (hd:m2 d n=true:=by exact rfl) (hk:known F op.operands.toList=true:=by exact rfl) (a:p9 op=true:=by exact rfl)
    (hr:∀ W,(execOp (oQ F) ⟨none,op,ty, "", #[],none⟩).run P W= .ok (.value (.pointer (some ⟨W.heap.size,0,none⟩))) (W.alloc (.cells cs.toArray t (0,0))):=by intro _; kernel_rfl):WL P ops Q (⟨some d,op,ty,pos,aft,none⟩::rest) n F w:=WL.do hd (IY H hk a hr h)
theorem lg (cs:List Value) (t:TypeId) (sz m:Nat) (H:Own w0 D w L) (h:∀ A w',Own w0 D w' (row A m m cs t sz::L)→WL P ops Q rest n ((d, .slice A m m)::F) w') (hd:m2 d n=true:=by exact rfl) (hk:known F op.operands.toList=true:=by exact rfl) (a:p9 op=true:=by exact rfl)
    (hr:∀ W,(execOp (oQ F) ⟨none,op,ty, "", #[],none⟩).run P W= .ok (.value (.slice (some ⟨W.heap.size,0,none⟩) m m)) (W.alloc (.cells cs.toArray t (0,0))):=by intro _; kernel_rfl) (hl:cs.length=m *sz:=by exact rfl) (hm:m≤4294967296:=by decide):
    WL P ops Q (⟨some d,op,ty,pos,aft,none⟩::rest) n F w:=WL.do hd (Jp H hk a hr hl hm h)
theorem cl {f:FuncId} {args:List Operand} {vals:List Value} {tys:Array TypeId} {R:Value→World→Prop} (hf:∀ (b:Array Value) W,(callFunc f b).run P W= .ok (.enter f b) W) (hc:Calls P f vals.toArray w (d9 R)) (h:∀ v w',R v w'→WL P ops Q rest n ((d,v)::F) w')
    (hd:m2 d n=true:=by exact rfl) (ha:vN F args=some vals:=by exact rfl):WL P ops Q (⟨some d, .call ⟨.value (.func f),args.toArray,tys⟩,ty,pos,aft,none⟩::rest) n F w:=WL.do hd (Iz hf ha hc h)
theorem rs {fn:Func} {R:Value→World→Prop} {t:Tmp} (h:R v w) (hr:fn.results= #[.tmp t]:=by exact rfl) (hv:look F t=some v:=by exact rfl):Fin (bodyPost P fn (d9 R)) .ret n F w:=Fin.res (G5 hr hv) h
theorem IL {x y:HP} (h:x=y) (H:Own w0 D w (x::L)):Own w0 D w (y::L):=h ▸ H
theorem Own.pk {L':List HP} (H:Own w0 D w L) (idx:List Nat) (hn:idx.Nodup:=by decide) (hp:Go.Proofs.YtbkagebjhbphaaaGreat.pk L idx=some L':=by exact rfl):Own w0 D w L':=H.pick idx hn hp
theorem cn {a b:Bool} (h:a=b):(!a)=(!b):=congrArg not h
theorem gw (v:Value) {j t:Nat} {b b':Bool} (hb:b'=b) (hy:Yl P n F w op ty v) (h:WL P ops Q rest n ((d,v)::F) w) (hj:(ops[j]?).bind (·.dst)=some t:=by exact rfl) (hv:look F t=some (.bool b'):=by exact rfl) (hd:m2 d n=true:=by exact rfl):
    WL P ops Q (⟨some d,op,ty,pos,aft,some (j,b)⟩::rest) n F w:=I1 hj hv hb hd hy h
theorem vR {j t:Nat} {b b':Bool} (hb:b'=b) {f:FuncId} {args:List Operand} {vals:List Value} {tys:Array TypeId} {R:Value→World→Prop} (hf:∀ (b:Array Value) W,(callFunc f b).run P W= .ok (.enter f b) W) (hc:Calls P f vals.toArray w (d9 R)) (h:∀ v w',R v w'→WL P ops Q rest n ((d,v)::F) w')
    (hj:(ops[j]?).bind (·.dst)=some t:=by exact rfl) (hv:look F t=some (.bool b'):=by exact rfl) (hd:m2 d n=true:=by exact rfl) (ha:vN F args=some vals:=by exact rfl):WL P ops Q (⟨some d, .call ⟨.value (.func f),args.toArray,tys⟩,ty,pos,aft,some (j,b)⟩::rest) n F w:=Jm hj hv hb hd (Iz hf ha hc h)
theorem sk {y:Code} (h:Wp P y n F w Q):Wp P .skip n F w (Exit.then (fun a w=>y.wp P Q a w) Q):=IE (Ig h)
theorem tR (h:Fin Q .ret n F w):Fin (Exit.then K Q) .ret n F w:=h
theorem bR {i:Nat} (h:Fin Q .ret n F w):Fin (Exit.inBlock i Q) .ret n F w:=h
theorem bN {i:Nat} (h:Fin Q .normal n F w):Fin (Exit.inBlock i Q) .normal n F w:=h
theorem rt (h:Fin Q .ret n F w):Wp P .ret n F w Q:=Wp.ret h
theorem bo {i:Nat} {c:Code} (h:Wp P c n F w (Exit.inBlock i Q)):Wp P (.block i c) n F w Q:=Wp.block h
end
end Go.Proofs.YtbkagebjhbphaaaGreat
