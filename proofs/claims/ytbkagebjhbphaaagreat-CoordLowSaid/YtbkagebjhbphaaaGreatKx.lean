/-
  Steps of walks in fewer words: what can be looked up is looked up; a value's type that can't vary is not said.
  Conditions: none beyond each law's own.
-/
import Derived.Test.YtbkagebjhbphaaaGreatKp
import Derived.Test.YtbkagebjhbphaaaGreatKh
namespace Go.Proofs.YtbkagebjhbphaaaGreat
set_option linter.unusedVariables false
set_option linter.unusedSimpArgs false
open Go.RowKit
section
variable {P:Program} {n:Nat} {F:List (Nat × Value)} {w0 w:World} {D:Nat→Prop} {L:List HP} {op:Op} {ty:TypeId} {v:Value} {K:Value→World→Prop} {x y:Operand} {T t:TypeId} {xs vs ys news:List Value}
def dn (a b:Nat):Nat:=Int.toNat (IntKind.u64.wrap (((BitVec.ofInt 64 (a:Int) ||| BitVec.ofInt 64 (b:Int)).toNat:Nat):Int))
def eQ (a b:Nat):Nat:=Int.toNat (IntKind.u64.wrap ((a:Int) *2 ^ (min b 64)))
theorem oz (a b:Nat):dn a b≤18446744073709551615:=by unfold dn; simp only [IntKind.wrap,IntKind.signed,IntKind.bits]; simp; omega
theorem oC (a b:Nat):eQ a b≤18446744073709551615:=by unfold eQ; simp only [IntKind.wrap,IntKind.signed,IntKind.bits]; simp; omega
theorem l7 (x:Int):Int.toNat (IntKind.u64.wrap x)≤18446744073709551615:=by simp only [IntKind.wrap,IntKind.signed,IntKind.bits]; simp; omega
theorem xB (x:Nat):IntKind.u8.wrap ((x:Nat):Int)=((UInt8.ofNat x).toNat:Int):=by
  simp [IntKind.wrap,IntKind.signed,IntKind.bits]
theorem u8_or (a b:UInt8):IntKind.u8.wrap (((BitVec.ofInt 8 ((a.toNat:Nat):Int) ||| BitVec.ofInt 8 ((b.toNat:Nat):Int)).toNat:Nat):Int)=((a ||| b).toNat:Int):=by
  rw [xB]
  have e:(BitVec.ofInt 8 ((a.toNat:Nat):Int) ||| BitVec.ofInt 8 ((b.toNat:Nat):Int)).toNat=(a ||| b).toNat:=by
    rw [BitVec.ofInt_natCast,BitVec.ofInt_natCast,UInt8.toNat_or,BitVec.toNat_or,BitVec.toNat_ofNat,BitVec.toNat_ofNat,Nat.mod_eq_of_lt a.toNat_lt,Nat.mod_eq_of_lt b.toNat_lt]
  rw [e]; simp
theorem Gm {k k':IntKind} {a:Int} {m:Nat} {xo yo:Operand} {t':TypeId} (hx:ev F xo=some (.int k a)) (hy:ev F yo=some (.int k' ((m:Nat):Int))):Yl P n F w (.binOp .shl t xo yo t') ty (.int k (k.wrap (a *2 ^ (min m k.bits)))):=fun ac hag o b _=>by
  unfold execOp
  rw [b]
  have hg:(eqGuard .shl t xo yo (.int k a) (.int k' ((m:Nat):Int))).run P w= .ok () w:=rfl
  simp only [hag.eval hx,hag.eval hy,Sem.run_bind,hg,Result.andThen_ok]
  have hs:(Op.shift .shl k a k' ((m:Nat):Int)).run P w= .ok (.int k (k.wrap (a *2 ^ (min m k.bits)))) w:=by
    unfold Op.shift
    rw [if_neg e6]; rfl
  simp [binOp,hs]
def lm (l n:Nat):Prop:=n *128 ^ l≤18446744073709551615
theorem lm.zero {n:Nat} (h:n≤18446744073709551615):lm 0 n:=by unfold lm; omega
theorem lm.step {l l' n:Nat} (h:lm l n) (hl:l'=l+1):lm l' (n / 128):=by
  subst hl
  unfold lm at *
  rw [Nat.pow_succ,Nat.mul_comm (128 ^ l) 128, ← Nat.mul_assoc]
  exact Nat.le_trans (Nat.mul_le_mul_right _ (Nat.div_mul_le_self n 128)) h
theorem lm.le {l n:Nat} (h:lm l n) (hn:128≤n):l≤8:=by
  unfold lm at h
  rcases Nat.lt_or_ge 8 l with a | a
  · have b:128 ^ 9≤128 ^ l:=Nat.pow_le_pow_right f3 a
    have c:128 *128 ^ 9≤n *128 ^ l:=Nat.mul_le_mul hn b
    have e:128 *128 ^ 9=1180591620717411303424:=by decide
    omega
  · exact a
def yT (n l:Nat):Prop:=1≤l∧∀ k,n < 128 ^ k *128→l≤k+1
theorem yT.one {n l:Nat} (h:l=1):yT n l:=⟨e6,fun k _=>by omega⟩
theorem yT.step {n l l':Nat} (hn: ¬ n < 128) (h:yT (n / 128) l) (hl:l'=l+1):yT n l':=
  ⟨e6,fun k hk=>by
    cases k with
    | zero=>omega
    | succ k=>
      have a:n / 128 < 128 ^ k *128:=Nat.div_lt_of_lt_mul (by rw [Nat.pow_succ] at hk; omega)
      have:=h.2 k a
      omega⟩
theorem Ig {m e size bytes:Nat} {lx cx:Operand} {kl kc:IntKind} {z:Value} (ht:P.underlying t=some (.slice e)) (hi:(P.info? e).map (fun i=>(i.zero,i.size,i.bytes))=some (some z,size,bytes)) (H:Own w0 D w L) (hl:ev F lx=some (.int kl 0)) (hc:ev F cx=some (.int kc (m:Int)))
    (hb:bytes *m≤281474976710656) (hm:m≤maxLen) (h:∀ A w',Own w0 D w' (row A 0 m [] e size::L)→K (.slice A 0 m) w'):Do P n F w (.makeSlice t lx cx) ty K:=fun a ha o c f next Q hn=>by
  obtain⟨i,b,hz,rfl,rfl⟩:=info_parts hi
  have hm':(m:Int)≤9223372036854775807:=by unfold maxLen at hm; omega
  have hb':(i.bytes:Int) *(m:Int)≤281474976710656:=by
    have h:((i.bytes *m:Nat):Int)≤281474976710656:=by omega
    rwa [Int.natCast_mul] at h
  have hr:=run_make (P:=P) w t e i z ht b hz kl kc 0 m (Int.le_refl _) e6 hb' hm'
  simp only [Int.toNat_natCast,Int.toNat_zero] at hr
  unfold execOp
  rw [c]
  simp only [ha.eval hl,ha.eval hc,Sem.run_bind,Sem.run_pure,Result.andThen_ok,hr]
  refine hn _ _ (h _ _ (H.alloc _ ⟨by simp, .inr ⟨w.heap.size,_,(0,0),rfl,by simp; rfl,IU _,hm,size_madeCells _ _,by simp,uB.zero _⟩⟩))
theorem C8 {l:List UInt8} {m:Nat} {tx:TypeId} (hk:P.underlying tx=some .string) (hm:m=List.length l):Src P 1 tx (.string ⟨l.toArray⟩) m (List.flatMap eB l) w:=by
  subst hm
  have h:=Src.ofString (P:=P) (w:=w) hk ⟨l.toArray⟩
  have e:byteCells (⟨l.toArray⟩:ByteArray)=List.flatMap eB l:=by rw [Bg]; simp [byteCells]
  rw [e] at h
  have a:(⟨l.toArray⟩:ByteArray).size=l.length:=by simp [ByteArray.size]
  rw [a] at h
  exact h
end
end Go.Proofs.YtbkagebjhbphaaaGreat
namespace Go.Proofs.YtbkagebjhbphaaaGreat
set_option linter.unusedVariables false
set_option linter.unusedSimpArgs false
section
variable {β:Type} [Bk β] {s:Sv β} {x:β}
end
end Go.Proofs.YtbkagebjhbphaaaGreat
namespace Go.Proofs.YtbkagebjhbphaaaGreat
open List renaming flatMap_append→r7,flatMap_cons→q3,getElem?_eq_some_iff→m7
open Nat renaming blt→m2
set_option linter.unusedVariables false
set_option linter.unusedSimpArgs false
open Go.RowKit
theorem bn {A:Option Addr} {m c sz:Nat} {xs:List Value} {t:TypeId} (w':World) (h:Nat→Option Obj) (hr:row A m c xs t sz h) (_:∀ k o,h k=some o→w'.heap[k]? =some o):m≤c∧m≤9223372036854775807:=by
  obtain⟨_,hr⟩:=hr
  rcases hr with ⟨_,e,a⟩ | ⟨g,cur,fz,_,_,a,b,_⟩
  · omega
  · unfold maxLen at b; omega
section
variable {P:Program} {n:Nat} {F:List (Nat × Value)} {w w0:World} {D:Nat→Prop} {L:List HP} {op:Op} {ty:TypeId} {ops:Array Oper} {rest:List Oper} {Q:Exit→Act→World→Prop} {pos:String} {aft:Array Edge} {d:Nat}
theorem Kz (v:Value) (h:WL P ops Q rest n ((d,v)::F) w) (hd:m2 d n=true:=by exact rfl) (hk:known F op.operands.toList=true:=by exact rfl) (hs:oJ op=true:=by exact rfl)
    (hr:∀ W,(execOp (nG F) ⟨none,op,ty, "", #[],none⟩).run P W= .ok (.value v) W:=by intro _; kernel_rfl):WL P ops Q (⟨some d,op,ty,pos,aft,none⟩::rest) n F w:=Kn hd hk hs hr h
theorem Gz (v:Value) {j t:Nat} {b b':Bool} (hb:b'=b) (h:WL P ops Q rest n ((d,v)::F) w) (hj:(ops[j]?).bind (·.dst)=some t:=by exact rfl) (hv:look F t=some (.bool b'):=by exact rfl) (hd:m2 d n=true:=by exact rfl)
    (hk:known F op.operands.toList=true:=by exact rfl) (hs:oJ op=true:=by exact rfl) (hr:∀ W,(execOp (nG F) ⟨none,op,ty, "", #[],none⟩).run P W= .ok (.value v) W:=by intro _; kernel_rfl):
    WL P ops Q (⟨some d,op,ty,pos,aft,some (j,b)⟩::rest) n F w:=FP hj hv hb hd (Gi hk hs hr) h
theorem Sz {j t:Nat} {b b':Bool} (hb:b'= !b) (h:WL P ops Q rest n ((d,undef)::F) w) (hj:(ops[j]?).bind (·.dst)=some t:=by exact rfl) (hv:look F t=some (.bool b'):=by exact rfl) (hd:m2 d n=true:=by exact rfl):
    WL P ops Q (⟨some d,op,ty,pos,aft,some (j,b)⟩::rest) n F w:=GZ hj hv hb hd h
theorem Lz (v:Value) {x:Operand} {T:TypeId} {g o:Nat} {cs:List Value} {t:TypeId} (H:Own w0 D w L) (i:Nat) (ha:∀ W,(isAgg T).run P W= .ok false W) (h:WL P ops Q rest n ((d,v)::F) w)
    (hi:L[i]? =some (blk g cs t):=by exact rfl) (hx:ev F x=some (.pointer (some ⟨g,o,none⟩)):=by exact rfl) (hv:cs[o]? =some v:=by exact rfl) (hd:m2 d n=true:=by exact rfl):
    WL P ops Q (⟨some d, .load T x,ty,pos,aft,none⟩::rest) n F w:=WL.val hd (EY hx (bZ.one ha (FE (H.cls hi) hv))) h
theorem Gl (v:Value) {x:Operand} {T:TypeId} {g o:Nat} {cs:List Value} {t:TypeId} {j q:Nat} {b b':Bool} (hb:b'=b) (H:Own w0 D w L) (i:Nat) (ha:∀ W,(isAgg T).run P W= .ok false W) (h:WL P ops Q rest n ((d,v)::F) w)
    (hi:L[i]? =some (blk g cs t):=by exact rfl) (hx:ev F x=some (.pointer (some ⟨g,o,none⟩)):=by exact rfl) (hv:cs[o]? =some v:=by exact rfl) (hj:(ops[j]?).bind (·.dst)=some q:=by exact rfl) (hl:look F q=some (.bool b'):=by exact rfl) (hd:m2 d n=true:=by exact rfl):
    WL P ops Q (⟨some d, .load T x,ty,pos,aft,some (j,b)⟩::rest) n F w:=FP hj hl hb hd (EY hx (bZ.one ha (FE (H.cls hi) hv))) h
theorem La (cs:List Value) {x:Operand} {T:TypeId} {g o:Nat} {cs':List Value} {t:TypeId} (H:Own w0 D w L) (i:Nat) (ha:∀ W,(isAgg T).run P W= .ok true W) (hS:∀ W,(sizeOf T).run P W= .ok cs.length W) (h:WL P ops Q rest n ((d, .agg cs.toArray)::F) w)
    (hi:L[i]? =some (blk g cs' t):=by exact rfl) (hx:ev F x=some (.pointer (some ⟨g,o,none⟩)):=by exact rfl) (hv:(cs'.drop o).take cs.length=cs:=by exact rfl) (hd:m2 d n=true:=by exact rfl):
    WL P ops Q (⟨some d, .load T x,ty,pos,aft,none⟩::rest) n F w:=WL.val hd (EY hx (Fb ha hS (by have:=(H.cls hi).lit (k:=o) hv; rwa [Nat.zero_add] at this))) h
theorem Ga (cs:List Value) {x:Operand} {T:TypeId} {g o:Nat} {cs':List Value} {t:TypeId} {j q:Nat} {b b':Bool} (hb:b'=b) (H:Own w0 D w L) (i:Nat) (ha:∀ W,(isAgg T).run P W= .ok true W) (hS:∀ W,(sizeOf T).run P W= .ok cs.length W) (h:WL P ops Q rest n ((d, .agg cs.toArray)::F) w)
    (hi:L[i]? =some (blk g cs' t):=by exact rfl) (hx:ev F x=some (.pointer (some ⟨g,o,none⟩)):=by exact rfl) (hv:(cs'.drop o).take cs.length=cs:=by exact rfl) (hj:(ops[j]?).bind (·.dst)=some q:=by exact rfl) (hl:look F q=some (.bool b'):=by exact rfl) (hd:m2 d n=true:=by exact rfl):
    WL P ops Q (⟨some d, .load T x,ty,pos,aft,some (j,b)⟩::rest) n F w:=FP hj hl hb hd (EY hx (Fb ha hS (by have:=(H.cls hi).lit (k:=o) hv; rwa [Nat.zero_add] at this))) h
end
section
variable {α γ:Type}
theorem zV {ds:List α} {i:Nat} {x:α} (y:α) (hx:ds[i]? =some x):List.set ds i y=List.take i ds++y::List.drop (i+1) ds:=by
  obtain⟨hi,_⟩:=m7.1 hx
  rw [List.set_eq_take_append_cons_drop,if_pos hi]
theorem Cc {ds:List α} {i:Nat} {x:α} (hx:ds[i]? =some x):ds=List.take i ds++x::List.drop (i+1) ds:=by
  have h:=zV x hx
  rw [← h]
  obtain⟨hi,e⟩:=m7.1 hx
  rw [← e,List.set_getElem_self]
theorem AU {f:α→List γ} {ds:List α} {i:Nat} {x y:α} (hx:ds[i]? =some x) (h:f y=f x):List.flatMap f (List.set ds i y)=List.flatMap f ds:=by
  rw [zV y hx,r7,q3,h]
  conv=>rhs; rw [Cc hx,r7,q3]
end
theorem oD {w:World} {sz n m:Nat} {A:Option Addr} {xs:List Value} (e:n=m) (h:bD w sz A n xs):bD w sz A m xs:=by subst e; exact h
theorem G6 {α:Type} {sz:Nat} {A:Option Addr} {c:Nat} {l:List α} {A':Option Addr} {c':Nat} {l':List α} {x:α} (h:jg sz A c l A' c' l') (hx:x ∈ l'):x ∈ l:=by
  induction h with
  | nil=>cases hx
  | refl _=>exact hx
  | cut _ _ ih=>exact ih (List.mem_of_mem_drop hx)
end Go.Proofs.YtbkagebjhbphaaaGreat
