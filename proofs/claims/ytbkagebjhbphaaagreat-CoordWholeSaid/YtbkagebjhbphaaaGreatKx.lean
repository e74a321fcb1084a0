/-
  Steps of walks in fewer words: what can be looked up is looked up; a value's type that can't vary is not said.
  Conditions: none beyond each law's own.
-/
import Derived.Test.YtbkagebjhbphaaaGreatKm
import Derived.Lib.MinMaxS
import Derived.Test.YtbkagebjhbphaaaGreatKh
namespace Go.Proofs.YtbkagebjhbphaaaGreat
set_option linter.unusedVariables false
set_option linter.unusedSimpArgs false
open Go.RowKit
section
variable {P:Program} {ops:Array Oper} {Q:Exit→Act→World→Prop} {ks:List Nat} {Good:World→Prop} {n:Nat} {F:List (Nat × Value)} {w:World} {op:Op} {ty:TypeId} {v:Value} {fuel:Nat} {l:List Nat} {pos:String} {aft:Array Edge} {d:Nat}
def jK (a b:List UInt8):List UInt8:=if a < b then b else a
theorem J4 {x y:Operand} {ts:Array TypeId} {a b:List UInt8} (ha:vE F [x,y]=some [.string ⟨a.toArray⟩, .string ⟨b.toArray⟩]):Yl P n F w (.call ⟨.builtin .max, #[x,y],ts⟩) ty (.string ⟨(jK a b).toArray⟩):=fun ac hag o f _=>by
  unfold execOp
  rw [f]
  have he:=hag.evals ha
  have e:Lib.maxS ⟨a.toArray⟩ ⟨b.toArray⟩=⟨(jK a b).toArray⟩:=by
    unfold Lib.maxS jK
    by_cases h:a < b <;> simp [h]
  simp [resolve,Act.eval,Deferred.ofValue,invoke,he,builtin,Lib.run_max_strs,Result.andThen,e]
def GY (P:Program) (ops:Array Oper) (Q:Exit→Act→World→Prop) (ks:List Nat) (Good:World→Prop) (fuel:Nat) (l:List Nat) (n:Nat) (F:List (Nat × Value)) (w:World) (i:Nat):Prop:=
  bv Q→Region.noSelect ops=true→GO P ops Q (kY ks Good) fuel (j3 ops.size l) n F w i
def H8 (ops:Array Oper) (rs:List Nat) (l:List Nat):Bool:=decide (Region.ready .any ops (j3 ops.size l)=rs)
theorem Jy (i j:Nat) (hk:H8 ops [i,j] l=true) (a:GY P ops Q ks Good fuel l n F w i) (b:GY P ops Q ks Good fuel l n F w j):GX P ops Q ks Good (fuel+1) l n F w:=fun hQ hs=>by
  refine GW.any (of_decide_eq_true hk) rfl fun q hq=> ?_
  rcases List.mem_cons.1 hq with rfl | hq
  · exact a hQ hs
  · rw [List.mem_singleton.1 hq]; exact b hQ hs
theorem GY.do (i:Nat) (hi:ops[i]? =some ⟨some d,op,ty,pos,aft,none⟩) (hk:Nat.blt d n=true)
    (h:Do P n F w op ty fun v w'=>(ks.any (fun k=>(j3 ops.size (i::l)).getD k false)=true∨Good w')∧GX P ops Q ks Good fuel (i::l) n ((d,v)::F) w'):GY P ops Q ks Good fuel l n F w i:=fun hQ hs=>
  GO.do hi hk rfl (h.mono fun v w' k=>⟨k.1,k.2 hQ hs⟩)
theorem Lh (i:Nat) (hi:ops[i]? =some ⟨none,op,ty,pos,aft,none⟩) (hk:true=true)
    (h:Do P n F w op ty fun _ w'=>(ks.any (fun k=>(j3 ops.size (i::l)).getD k false)=true∨Good w')∧GX P ops Q ks Good fuel (i::l) n F w'):GY P ops Q ks Good fuel l n F w i:=fun hQ hs=>
  KX hi rfl (h.mono fun v w' k=>⟨k.1,k.2 hQ hs⟩)
end
end Go.Proofs.YtbkagebjhbphaaaGreat
namespace Go.Proofs.YtbkagebjhbphaaaGreat
set_option linter.unusedVariables false
set_option linter.unusedSimpArgs false
open Go.RowKit
theorem FH {F:List (Nat × Value)} {x:Operand} {r:Int} {i:Nat} (h:ev F x=some (.int .i64 r)) (e:r=((i:Nat):Int)):ev F x=some (.int .i64 ((i:Nat):Int)):=by rw [h,e]
theorem zV (n k:Nat) (hk:k < 64) (m:Int) (hm:m=((2 ^ k - 1:Nat):Int)):IntKind.u64.wrap (((BitVec.ofInt 64 (n:Int) &&& BitVec.ofInt 64 m).toNat:Nat):Int)=((n % 2 ^ k:Nat):Int):=by
  subst hm
  have hp:2 ^ k≤2 ^ 63:=Nat.pow_le_pow_right f2 e6
  have b:0 < 2 ^ k:=Nat.two_pow_pos k
  have e:(BitVec.ofInt 64 (n:Int) &&& BitVec.ofInt 64 ((2 ^ k - 1:Nat):Int)).toNat=n % 2 ^ k:=by
    rw [BitVec.toNat_and,BitVec.ofInt_natCast,BitVec.ofInt_natCast,BitVec.toNat_ofNat,BitVec.toNat_ofNat,Nat.mod_eq_of_lt (a:=2 ^ k - 1) e6,Nat.and_two_pow_sub_one_eq_mod,
      Nat.mod_mod_of_dvd n (Nat.pow_dvd_pow 2 e6)]
  rw [e]
  have:=Nat.mod_lt n b
  rw [IntWalk.u64_in _ e6]
end Go.Proofs.YtbkagebjhbphaaaGreat
namespace Go.Proofs.YtbkagebjhbphaaaGreat
set_option linter.unusedVariables false
set_option linter.unusedSimpArgs false
open Go.RowKit
theorem rC {β:Type}:∀ x:Sv β,(I9 x).length=1:=fun _=>rfl
section
variable {w0 w:World} {D:Nat→Prop} {L:List HP} {α β:Type}
theorem take_at {ds:List α} {i:Nat} {x:α} (hx:ds[i]? =some x):ds=List.take i ds++(x::List.drop (i+1) ds):=by
  obtain⟨hi,rfl⟩:=List.getElem?_eq_some_iff.1 hx
  rw [List.getElem_cons_drop,List.take_append_drop]
theorem zW {ds:List α} {i:Nat} {x:α} (y:α) (hx:ds[i]? =some x):List.set ds i y=List.take i ds++(y::List.drop (i+1) ds):=by
  obtain⟨hi,rfl⟩:=List.getElem?_eq_some_iff.1 hx
  exact List.set_eq_take_append_cons_drop.trans (by rw [if_pos hi])
theorem Jm {f:α→List HP} {ds:List α} {i:Nat} {x:α} (hx:ds[i]? =some x) (H:Own w0 D w (sepL (List.flatMap f ds)::L)):
    Own w0 D w (f x++(sepL (List.flatMap f (List.take i ds)++List.flatMap f (List.drop (i+1) ds))::L)):=by
  rw [take_at hx,List.flatMap_append,List.flatMap_cons] at H
  have a:=H.flat
  have e:((List.flatMap f (List.take i ds)++(f x++List.flatMap f (List.drop (i+1) ds)))++L).Perm ((List.flatMap f (List.take i ds)++List.flatMap f (List.drop (i+1) ds))++(f x++L)):=by
    rw [← List.append_assoc, ← List.append_assoc]
    refine List.Perm.append_right L ?_
    rw [List.append_assoc,List.append_assoc]
    exact List.Perm.append_left _ List.perm_append_comm
  have b:=(a.perm e).pack
  exact b.perm (by
    have:(sepL (List.flatMap f (List.take i ds)++List.flatMap f (List.drop (i+1) ds))::(f x++L)).Perm (f x++(sepL (List.flatMap f (List.take i ds)++List.flatMap f (List.drop (i+1) ds))::L)):=List.perm_middle.symm
    exact this)
theorem Je {f:α→List HP} {ds:List α} {i:Nat} {x y:α} (hx:ds[i]? =some x)
    (H:Own w0 D w (f y++(sepL (List.flatMap f (List.take i ds)++List.flatMap f (List.drop (i+1) ds))::L))):Own w0 D w (sepL (List.flatMap f (List.set ds i y))::L):=by
  have a:Own w0 D w (sepL (List.flatMap f (List.take i ds)++List.flatMap f (List.drop (i+1) ds))::(f y++L)):=H.perm List.perm_middle
  have b:=a.flat
  have e:((List.flatMap f (List.take i ds)++List.flatMap f (List.drop (i+1) ds))++(f y++L)).Perm ((List.flatMap f (List.take i ds)++(f y++List.flatMap f (List.drop (i+1) ds)))++L):=by
    rw [← List.append_assoc, ← List.append_assoc]
    refine List.Perm.append_right L ?_
    rw [List.append_assoc,List.append_assoc]
    exact List.Perm.append_left _ List.perm_append_comm
  rw [zW y hx,List.flatMap_append,List.flatMap_cons]
  exact(b.perm e).pack
theorem yT {f:α→List Value} {ds:List α} {i:Nat} {x y:α} (hx:ds[i]? =some x) (h:f y=f x):List.flatMap f (List.set ds i y)=List.flatMap f ds:=by
  rw [zW y hx,List.flatMap_append,List.flatMap_cons,h]
  conv=>rhs; rw [take_at hx,List.flatMap_append,List.flatMap_cons]
theorem jl {f:α→β} {ds:List α} {ls:List β} {i:Nat} {y:α} {z:β} (h:List.map f ds=ls) (hy:f y=z):List.map f (List.set ds i y)=List.set ls i z:=by
  rw [List.map_set,h,hy]
end
section
variable {α:Type} {enc:α→List Value} {sz:Nat} {A:Option Addr} {c:Nat} {l:List α}
inductive jm (sz:Nat) (A:Option Addr) (c:Nat) (l:List α):Option Addr→Nat→List α→Prop
  | nil:jm sz A c l none 0 []
  | refl:List.length l≤c→jm sz A c l A c l
  | cut {A1:Option Addr} {c1 k:Nat} {l1:List α}:jm sz A c l A1 c1 l1→k≤List.length l1→jm sz A c l (jw A1 k sz c1) (c1 - k) (List.drop k l1)
theorem jm.le {A':Option Addr} {c':Nat} {l':List α} (h:jm sz A c l A' c' l'):List.length l'≤c'∧(c'≤c∧List.length l'≤List.length l):=by
  induction h with
  | nil=>exact⟨Nat.le_refl _,Lp _,Lp _⟩
  | refl h=>exact⟨h,Nat.le_refl _,Nat.le_refl _⟩
  | cut h hk ih=>rw [List.length_drop]; omega
theorem jm.rds {w:World} {A':Option Addr} {c':Nat} {l':List α} (hz:∀ x,(enc x).length=sz) (hp:0 < sz) (h:jm sz A c l A' c' l') (hr:aY w sz A (List.length l) (List.flatMap enc l)):aY w sz A' (List.length l') (List.flatMap enc l'):=by
  induction h with
  | nil=>exact aY.nil _ _ _
  | refl h=>exact hr
  | cut h hk ih=>
    have:=h.le
    rw [List.length_drop]
    exact Jw hz ih hk this.1 hp
theorem jm.trans {a b:Option Addr} {e f:Nat} {l1 g:List α} (h:jm sz A c l a e l1) (i:jm sz a e l1 b f g):jm sz A c l b f g:=by
  induction i with
  | nil=>exact .nil
  | refl _=>exact h
  | cut _ hk ih=>exact ih.cut hk
end
section
variable {P:Program} {n:Nat} {F G:List (Nat × Value)} {w:World} {Q:Exit→Act→World→Prop} {c:Code}
def Un (P:Program) (c:Code) (Q:Exit→Act→World→Prop):Nat→Act→World→Prop
  | 0,_,_=>False
  | k+1,a,w=>c.wp P (Exit.then (fun a' w'=>Un P c Q k a' w') Q) a w
theorem Un.loop:∀ (m:Nat) (a:Act) (w:World),Un P c Q m a w→∀ b k cs, ∃ e a' w',Q e a' w'∧Arrives P (lone (b.at a (.code c:: .inLoop c::k)) cs w) b k cs e a' w'
  | 0,_,_,h,_,_,_=>h.elim
  | m+1,a,w,h,b,k,cs=>by
    obtain⟨e,f,g,hq,harr⟩:=h b (.inLoop c::k) cs
    cases e with
    | normal=>
      obtain⟨j,o,p,i,harr2⟩:=Un.loop m f g hq b k cs
      exact⟨j,o,p,i, .of_steps (Steps.trans harr (.one step_inLoop)) harr2⟩
    | exit id=>exact⟨_,f,g,hq, .pass (x:= .inLoop c) rfl (fun _ _=> .inl i7) harr⟩
    | goto l=>exact⟨_,f,g,hq, .pass (x:= .inLoop c) rfl (fun _ _=> .inl i7) harr⟩
    | ret=>exact⟨_,f,g,hq, .pass (x:= .inLoop c) rfl (fun _ _=> .inl i7) harr⟩
    | panic ch=>exact⟨_,f,g,hq, .pass (x:= .inLoop c) rfl (fun _ _=> .inl i7) harr⟩
    | outgrown=>exact⟨_,f,g,hq, .pass (x:= .inLoop c) rfl (fun _ _=> .inl i7) harr⟩
theorem JG (m:Nat) (h:Wp P c n F w (Exit.then (fun a w=>Un P c Q m a w) Q)):Wp P (.loop c) n F w Q:=fun a ha b k cs=>by
  obtain⟨e,a',w',hq,harr⟩:=Un.loop (m+1) a w (h a ha) b k cs
  exact⟨e,a',w',hq, .of_steps (.one step_loop) harr⟩
theorem Jh {k:Nat} (G:List (Nat × Value)) (hs:wR G F) (h:Wp P c n G w (Exit.then (fun a w=>Un P c Q k a w) Q)):Fin (Exit.then (fun a w=>Un P c Q (k+1) a w) Q) .normal n F w:=fun a ha=>h a (ha.sub hs)
end
end Go.Proofs.YtbkagebjhbphaaaGreat
namespace Go.Proofs.YtbkagebjhbphaaaGreat
set_option linter.unusedVariables false
set_option linter.unusedSimpArgs false
open Go.RowKit
section
variable {P:Program} {n:Nat} {F:List (Nat × Value)} {w0 w:World} {D:Nat→Prop} {L:List HP} {op:Op} {ty:TypeId} {v:Value} {K:Value→World→Prop} {x y:Operand} {T t:TypeId} {xs vs ys news:List Value}
def bY (a b:Nat):Nat:=Int.toNat (IntKind.u64.wrap (((BitVec.ofInt 64 (a:Int) ||| BitVec.ofInt 64 (b:Int)).toNat:Nat):Int))
def fQ (a b:Nat):Nat:=Int.toNat (IntKind.u64.wrap ((a:Int) *2 ^ (min b 64)))
theorem pg (a b:Nat):bY a b≤18446744073709551615:=by unfold bY; simp only [IntKind.wrap,IntKind.signed,IntKind.bits]; simp; omega
theorem pq (a b:Nat):fQ a b≤18446744073709551615:=by unfold fQ; simp only [IntKind.wrap,IntKind.signed,IntKind.bits]; simp; omega
theorem lV (x:Int):Int.toNat (IntKind.u64.wrap x)≤18446744073709551615:=by simp only [IntKind.wrap,IntKind.signed,IntKind.bits]; simp; omega
theorem yA (x:Nat):IntKind.u8.wrap ((x:Nat):Int)=((UInt8.ofNat x).toNat:Int):=by
  simp [IntKind.wrap,IntKind.signed,IntKind.bits]
theorem u8_or (a b:UInt8):IntKind.u8.wrap (((BitVec.ofInt 8 ((a.toNat:Nat):Int) ||| BitVec.ofInt 8 ((b.toNat:Nat):Int)).toNat:Nat):Int)=((a ||| b).toNat:Int):=by
  rw [yA]
  have e:(BitVec.ofInt 8 ((a.toNat:Nat):Int) ||| BitVec.ofInt 8 ((b.toNat:Nat):Int)).toNat=(a ||| b).toNat:=by
    rw [BitVec.ofInt_natCast,BitVec.ofInt_natCast,UInt8.toNat_or,BitVec.toNat_or,BitVec.toNat_ofNat,BitVec.toNat_ofNat,Nat.mod_eq_of_lt a.toNat_lt,Nat.mod_eq_of_lt b.toNat_lt]
  rw [e]; simp
theorem JO {k k':IntKind} {a:Int} {m:Nat} {xo yo:Operand} {t':TypeId} (hx:ev F xo=some (.int k a)) (hy:ev F yo=some (.int k' ((m:Nat):Int))):Yl P n F w (.binOp .shl t xo yo t') ty (.int k (k.wrap (a *2 ^ (min m k.bits)))):=fun ac hag o b _=>by
  unfold execOp
  rw [b]
  have hg:(eqGuard .shl t xo yo (.int k a) (.int k' ((m:Nat):Int))).run P w= .ok () w:=rfl
  simp only [hag.eval hx,hag.eval hy,Sem.run_bind,hg,Result.andThen_ok]
  have hs:(Op.shift .shl k a k' ((m:Nat):Int)).run P w= .ok (.int k (k.wrap (a *2 ^ (min m k.bits)))) w:=by
    unfold Op.shift
    rw [if_neg e6]; rfl
  simp [binOp,hs]
def lJ (l n:Nat):Prop:=n *128 ^ l≤18446744073709551615
theorem lJ.zero {n:Nat} (h:n≤18446744073709551615):lJ 0 n:=by unfold lJ; omega
theorem lJ.step {l l' n:Nat} (h:lJ l n) (hl:l'=l+1):lJ l' (n / 128):=by
  subst hl
  unfold lJ at *
  rw [Nat.pow_succ,Nat.mul_comm (128 ^ l) 128, ← Nat.mul_assoc]
  exact Nat.le_trans (Nat.mul_le_mul_right _ (Nat.div_mul_le_self n 128)) h
theorem lJ.le {l n:Nat} (h:lJ l n) (hn:128≤n):l≤8:=by
  unfold lJ at h
  rcases Nat.lt_or_ge 8 l with a | a
  · have b:128 ^ 9≤128 ^ l:=Nat.pow_le_pow_right f2 a
    have e:128 *128 ^ 9≤n *128 ^ l:=Nat.mul_le_mul hn b
    have f:128 *128 ^ 9=1180591620717411303424:=by decide
    omega
  · exact a
def zX (n l:Nat):Prop:=1≤l∧∀ k,n < 128 ^ k *128→l≤k+1
theorem zX.one {n l:Nat} (h:l=1):zX n l:=⟨e6,fun k _=>by omega⟩
theorem zX.step {n l l':Nat} (hn: ¬ n < 128) (h:zX (n / 128) l) (hl:l'=l+1):zX n l':=
  ⟨e6,fun k hk=>by
    cases k with
    | zero=>omega
    | succ k=>
      have a:n / 128 < 128 ^ k *128:=Nat.div_lt_of_lt_mul (by rw [Nat.pow_succ] at hk; omega)
      have:=h.2 k a
      omega⟩
theorem KR {m e size bytes:Nat} {lx cx:Operand} {kl kc:IntKind} {z:Value} (ht:P.underlying t=some (.slice e)) (hi:(P.info? e).map (fun i=>(i.zero,i.size,i.bytes))=some (some z,size,bytes)) (H:Own w0 D w L) (hl:ev F lx=some (.int kl 0)) (hc:ev F cx=some (.int kc (m:Int)))
    (hb:bytes *m≤281474976710656) (hm:m≤maxLen) (h:∀ A w',Own w0 D w' (row A 0 m [] e size::L)→K (.slice A 0 m) w'):Do P n F w (.makeSlice t lx cx) ty K:=fun a ha o f g next Q hn=>by
  obtain⟨i,b,hz,rfl,rfl⟩:=info_parts hi
  have hm':(m:Int)≤9223372036854775807:=by unfold maxLen at hm; omega
  have hb':(i.bytes:Int) *(m:Int)≤281474976710656:=by
    have h:((i.bytes *m:Nat):Int)≤281474976710656:=by omega
    rwa [Int.natCast_mul] at h
  have hr:=run_make (P:=P) w t e i z ht b hz kl kc 0 m (Int.le_refl _) e6 hb' hm'
  simp only [Int.toNat_natCast,Int.toNat_zero] at hr
  unfold execOp
  rw [f]
  simp only [ha.eval hl,ha.eval hc,Sem.run_bind,Sem.run_pure,Result.andThen_ok,hr]
  refine hn _ _ (h _ _ (H.alloc _ ⟨by simp, .inr ⟨w.heap.size,_,(0,0),rfl,by simp; rfl,Lp _,hm,size_madeCells _ _,by simp,vk.zero _⟩⟩))
theorem Fb {l:List UInt8} {m:Nat} {tx:TypeId} (hk:P.underlying tx=some .string) (hm:m=List.length l):Src P 1 tx (.string ⟨l.toArray⟩) m (List.flatMap eB l) w:=by
  subst hm
  have h:=Src.ofString (P:=P) (w:=w) hk ⟨l.toArray⟩
  have e:byteCells (⟨l.toArray⟩:ByteArray)=List.flatMap eB l:=by rw [CV]; simp [byteCells]
  rw [e] at h
  have a:(⟨l.toArray⟩:ByteArray).size=l.length:=by simp [ByteArray.size]
  rw [a] at h
  exact h
end
end Go.Proofs.YtbkagebjhbphaaaGreat
namespace Go.Proofs.YtbkagebjhbphaaaGreat
set_option linter.unusedVariables false
set_option linter.unusedSimpArgs false
section
variable {β:Type} [Bk β] {s:Sv β} {x:β}
end
end Go.Proofs.YtbkagebjhbphaaaGreat
namespace Go.Proofs.YtbkagebjhbphaaaGreat
open Nat renaming blt→m3
set_option linter.unusedVariables false
set_option linter.unusedSimpArgs false
open Go.RowKit
theorem bn {A:Option Addr} {m c sz:Nat} {xs:List Value} {t:TypeId} (w':World) (h:Nat→Option Obj) (hr:row A m c xs t sz h) (_:∀ k o,h k=some o→w'.heap[k]? =some o):m≤c∧m≤9223372036854775807:=by
  obtain⟨_,hr⟩:=hr
  rcases hr with ⟨_,e,a⟩ | ⟨g,cur,fz,_,_,a,b,_⟩
  · omega
  · unfold maxLen at b; omega
section
variable {P:Program} {n:Nat} {F:List (Nat × Value)} {w w0:World} {D:Nat→Prop} {L:List HP} {op:Op} {ty:TypeId} {ops:Array Oper} {rest:List Oper} {Q:Exit→Act→World→Prop} {pos:String} {aft:Array Edge} {d:Nat}
theorem Kz (v:Value) (h:WL P ops Q rest n ((d,v)::F) w) (hd:m3 d n=true:=by exact rfl) (hk:known F op.operands.toList=true:=by exact rfl) (hs:pI op=true:=by exact rfl)
    (hr:∀ W,(execOp (og F) ⟨none,op,ty, "", #[],none⟩).run P W= .ok (.value v) W:=by intro _; kernel_rfl):WL P ops Q (⟨some d,op,ty,pos,aft,none⟩::rest) n F w:=Kn hd hk hs hr h
theorem Gz (v:Value) {j t:Nat} {b b':Bool} (hb:b'=b) (h:WL P ops Q rest n ((d,v)::F) w) (hj:(ops[j]?).bind (·.dst)=some t:=by exact rfl) (hv:look F t=some (.bool b'):=by exact rfl) (hd:m3 d n=true:=by exact rfl)
    (hk:known F op.operands.toList=true:=by exact rfl) (hs:pI op=true:=by exact rfl) (hr:∀ W,(execOp (og F) ⟨none,op,ty, "", #[],none⟩).run P W= .ok (.value v) W:=by intro _; kernel_rfl):
    WL P ops Q (⟨some d,op,ty,pos,aft,some (j,b)⟩::rest) n F w:=I7 hj hv hb hd (JI hk hs hr) h
theorem Sz {j t:Nat} {b b':Bool} (hb:b'= !b) (h:WL P ops Q rest n ((d,undef)::F) w) (hj:(ops[j]?).bind (·.dst)=some t:=by exact rfl) (hv:look F t=some (.bool b'):=by exact rfl) (hd:m3 d n=true:=by exact rfl):
    WL P ops Q (⟨some d,op,ty,pos,aft,some (j,b)⟩::rest) n F w:=Ka hj hv hb hd h
theorem Lz (v:Value) {x:Operand} {T:TypeId} {g o:Nat} {cs:List Value} {t:TypeId} (H:Own w0 D w L) (i:Nat) (ha:∀ W,(isAgg T).run P W= .ok false W) (h:WL P ops Q rest n ((d,v)::F) w)
    (hi:L[i]? =some (blk g cs t):=by exact rfl) (hx:ev F x=some (.pointer (some ⟨g,o,none⟩)):=by exact rfl) (hv:cs[o]? =some v:=by exact rfl) (hd:m3 d n=true:=by exact rfl):
    WL P ops Q (⟨some d, .load T x,ty,pos,aft,none⟩::rest) n F w:=WL.val hd (IB hx (bJ.one ha (I1 (H.cls hi) hv))) h
theorem Gl (v:Value) {x:Operand} {T:TypeId} {g o:Nat} {cs:List Value} {t:TypeId} {j q:Nat} {b b':Bool} (hb:b'=b) (H:Own w0 D w L) (i:Nat) (ha:∀ W,(isAgg T).run P W= .ok false W) (h:WL P ops Q rest n ((d,v)::F) w)
    (hi:L[i]? =some (blk g cs t):=by exact rfl) (hx:ev F x=some (.pointer (some ⟨g,o,none⟩)):=by exact rfl) (hv:cs[o]? =some v:=by exact rfl) (hj:(ops[j]?).bind (·.dst)=some q:=by exact rfl) (hl:look F q=some (.bool b'):=by exact rfl) (hd:m3 d n=true:=by exact rfl):
    WL P ops Q (⟨some d, .load T x,ty,pos,aft,some (j,b)⟩::rest) n F w:=I7 hj hl hb hd (IB hx (bJ.one ha (I1 (H.cls hi) hv))) h
theorem La (cs:List Value) {x:Operand} {T:TypeId} {g o:Nat} {cs':List Value} {t:TypeId} (H:Own w0 D w L) (i:Nat) (ha:∀ W,(isAgg T).run P W= .ok true W) (hS:∀ W,(sizeOf T).run P W= .ok cs.length W) (h:WL P ops Q rest n ((d, .agg cs.toArray)::F) w)
    (hi:L[i]? =some (blk g cs' t):=by exact rfl) (hx:ev F x=some (.pointer (some ⟨g,o,none⟩)):=by exact rfl) (hv:(cs'.drop o).take cs.length=cs:=by exact rfl) (hd:m3 d n=true:=by exact rfl):
    WL P ops Q (⟨some d, .load T x,ty,pos,aft,none⟩::rest) n F w:=WL.val hd (IB hx (IJ ha hS (by have:=(H.cls hi).lit (k:=o) hv; rwa [Nat.zero_add] at this))) h
theorem Ga (cs:List Value) {x:Operand} {T:TypeId} {g o:Nat} {cs':List Value} {t:TypeId} {j q:Nat} {b b':Bool} (hb:b'=b) (H:Own w0 D w L) (i:Nat) (ha:∀ W,(isAgg T).run P W= .ok true W) (hS:∀ W,(sizeOf T).run P W= .ok cs.length W) (h:WL P ops Q rest n ((d, .agg cs.toArray)::F) w)
    (hi:L[i]? =some (blk g cs' t):=by exact rfl) (hx:ev F x=some (.pointer (some ⟨g,o,none⟩)):=by exact rfl) (hv:(cs'.drop o).take cs.length=cs:=by exact rfl) (hj:(ops[j]?).bind (·.dst)=some q:=by exact rfl) (hl:look F q=some (.bool b'):=by exact rfl) (hd:m3 d n=true:=by exact rfl):
    WL P ops Q (⟨some d, .load T x,ty,pos,aft,some (j,b)⟩::rest) n F w:=I7 hj hl hb hd (IB hx (IJ ha hS (by have:=(H.cls hi).lit (k:=o) hv; rwa [Nat.zero_add] at this))) h
end
section
variable {α γ:Type}
end
theorem sZ {w:World} {sz n m:Nat} {A:Option Addr} {xs:List Value} (e:n=m) (h:aY w sz A n xs):aY w sz A m xs:=by subst e; exact h
theorem Kb {α:Type} {sz:Nat} {A:Option Addr} {c:Nat} {l:List α} {A':Option Addr} {c':Nat} {l':List α} {x:α} (h:jm sz A c l A' c' l') (hx:x ∈ l'):x ∈ l:=by
  induction h with
  | nil=>cases hx
  | refl _=>exact hx
  | cut _ _ ih=>exact ih (List.mem_of_mem_drop hx)
end Go.Proofs.YtbkagebjhbphaaaGreat
