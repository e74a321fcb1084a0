/-
  What a function tells, as a term: binds, loops, ways that meet; an append with the room that the runtime gives.
  Conditions: none beyond each law's own.
-/
import Derived.Test.YtbkagebjhbphaaaGreatKg
import Derived.Laws.StructEq
import Derived.Test.YtbkagebjhbphaaaGreatKh
import Derived.Deep.DeepAppendWide
namespace Go.Proofs.YtbkagebjhbphaaaGreat
set_option linter.unusedVariables false
set_option linter.unusedSimpArgs false
open Go.RowKit
def iQ (P:Program) (k:Nat) (t:TypeId) (x y:Value) (b:Bool):Prop:=∀ (d:Nat) (w:World),(Op.equalIn (d+k) t x y).run P w= .ok b w
def iC (P:Program) (k:Nat) (xs ys:Array Value) (fs:List Field) (b:Bool):Prop:=∀ (d:Nat) (w:World),(Op.eqFields (d+k) xs ys fs).run P w= .ok b w
section
variable {P:Program} {k:Nat} {t:TypeId} {x y:Value} {xs ys:Array Value} {fs:List Field} {f:Field} {p q:Prop} [Decidable p] [Decidable q]
theorem iQ.up {j:Nat} {b:Bool} (h:iQ P k t x y b) (hj:k≤j):iQ P j t x y b:=fun d w=>by
  have:=h (d+(j - k)) w
  rwa [show d+(j - k)+k=d+j by omega] at this
theorem iC.up {j:Nat} {b:Bool} (h:iC P k xs ys fs b) (hj:k≤j):iC P j xs ys fs b:=fun d w=>by
  have:=h (d+(j - k)) w
  rwa [show d+(j - k)+k=d+j by omega] at this
theorem iQ.int {ki ki':IntKind} {a b:Int} (h:P.underlying t=some (.int ki')):iQ P 1 t (.int ki a) (.int ki b) (decide (a=b)):=fun d w=>by
  rw [run_equalIn_int w d t ki ki' a b h]; first | done | rfl
theorem iQ.bool {a b:Bool} (h:P.underlying t=some .bool):iQ P 1 t (.bool a) (.bool b) (decide (a=b)):=fun d w=>by
  rw [run_equalIn_bool' w d t a b h]; cases a <;> cases b <;> rfl
theorem iQ.string {a b:List UInt8} (h:P.underlying t=some .string):iQ P 1 t (.string ⟨a.toArray⟩) (.string ⟨b.toArray⟩) (decide (a=b)):=fun d w=>by
  rw [run_equalIn_string w d t _ _ h,ByteArray.toList_mk,ByteArray.toList_mk,sG]
theorem iC.nil:iC P 0 xs ys [] true:=fun d w=>rfl
theorem iC.cons {u v:Value} {a b:Bool} (hn:decide (f.name= "_")=false) (hu:∀ w,(part f.type xs f.offset).run P w= .ok u w) (hv:∀ w,(part f.type ys f.offset).run P w= .ok v w) (he:iQ P k f.type u v a) (hr:iC P k xs ys fs b):iC P k xs ys (f::fs) (a && b):=fun d w=>by
  have hn':f.name≠ "_" :=of_decide_eq_false hn
  rw [Op.eqFields,if_pos hn']
  simp only [Sem.run_bind,hu,hv,he d,Result.andThen_ok]
  cases a
  · simp [Sem.run_pure]
  · simp only [Bool.not_true,Bool.false_eq_true,if_false,Bool.true_and]; exact hr d w
theorem iC.dec {b:Bool} (h:iC P k xs ys fs b) (hb:b=decide p):iC P k xs ys fs (decide p):=hb ▸ h
theorem iQ.struct {b:Bool} (ht:P.underlying t=some (.struct fs.toArray)) (hp:P.stoodInHeld t=false) (h:iC P k xs ys fs b):iQ P (k+1) t (.agg xs) (.agg ys) b:=fun d w=>by
  have hf:P.fieldsOf t=fs.toArray:=by simp [Program.fieldsOf,ht]
  have:=run_equalIn_struct (P:=P) w (d+k) t xs ys (by rw [hf]; exact ht) hp
  rw [show d+(k+1)=d+k+1 by omega,this,hf]
  exact h d w
theorem gG:(decide p && decide q)=decide (p∧q):=(Bool.decide_and p q).symm
theorem o9:(decide p && true)=decide p:=Bool.and_true _
variable {n:Nat} {F:List (Nat × Value)} {w:World} {ty yt:TypeId} {xo yo:Operand} {b:Bool}
theorem KQ (hx:ev F xo=some (.agg xs)) (hy:ev F yo=some (.agg ys)) (hg:P.eqGuardType P.depth t=false) (hk:Nat.ble k 10000=true) (he:iQ P k t (.agg xs) (.agg ys) b):Yl P n F w (.binOp .eql t xo yo yt) ty (.bool b):=fun a ha o c _=>by
  unfold execOp
  rw [c]
  have hk':k≤10000:=Lj hk
  have:=he (10000 - k) w
  rw [show 10000 - k+k=10000 by omega] at this
  simp only [ha.eval hx,ha.eval hy,run_eqGuard_agg w .eql t xo yo xs ys hg,Sem.run_bind,Sem.run_pure,Result.andThen_ok,run_eql_struct,this]
theorem Jo (hx:ev F xo=some (.agg xs)) (hy:ev F yo=some (.agg ys)) (hg:P.eqGuardType P.depth t=false) (hk:Nat.ble k 10000=true) (he:iQ P k t (.agg xs) (.agg ys) b):Yl P n F w (.binOp .neq t xo yo yt) ty (.bool (!b)):=fun a ha o c _=>by
  unfold execOp
  rw [c]
  have hk':k≤10000:=Lj hk
  have:=he (10000 - k) w
  rw [show 10000 - k+k=10000 by omega] at this
  simp only [ha.eval hx,ha.eval hy,run_eqGuard_agg w .neq t xo yo xs ys hg,Sem.run_bind,Sem.run_pure,Result.andThen_ok,run_neq_struct,this]
end
end Go.Proofs.YtbkagebjhbphaaaGreat
namespace Go.Proofs.YtbkagebjhbphaaaGreat
open List renaming drop→r4,map→s5
open Nat renaming blt→m3
set_option linter.unusedVariables false
set_option linter.unusedSimpArgs false
open Go.RowKit
def bnd {α β:Type} (x:α) (f:α→β):β:=f x
theorem ae {α β:Type} {x r:α} {f:α→β} (h:x=r):bnd x f=f r:=by subst h; rfl
def lp {α ρ:Type} (x:α ⊕ ρ) (f:α→ρ):ρ:=match x with
  | .inl a=>f a
  | .inr r=>r
def sW {α σ ρ:Type} (x:α ⊕ ρ) (f:α→σ ⊕ ρ):σ ⊕ ρ:=match x with
  | .inl a=>f a
  | .inr r=> .inr r
theorem mF {α ρ:Type} {x:α ⊕ ρ} {f:α→ρ} {a:α} (h:x= .inl a):lp x f=f a:=by subst h; rfl
theorem gL {α ρ:Type} {x:α ⊕ ρ} {f:α→ρ} {r:ρ} (h:x= .inr r):lp x f=r:=by subst h; rfl
theorem sH {α σ ρ:Type} {x:α ⊕ ρ} {f:α→σ ⊕ ρ} {a:α} (h:x= .inl a):sW x f=f a:=by subst h; rfl
theorem oU {α σ ρ:Type} {x:α ⊕ ρ} {f:α→σ ⊕ ρ} {r:ρ} (h:x= .inr r):sW x f= .inr r:=by subst h; rfl
theorem fP {α:Type} {b:Bool} {x y:α} (h:b=false):(if b=true then x else y)=y:=by subst h; rfl
theorem aT {α:Type} {ls:List α} {i:Nat} {d x:α} (h:ls[i]? =some x):ls.getD i d=x:=by
  rw [List.getD_eq_getElem?_getD,h]; rfl
theorem drop_at {α:Type} {ls:List α} {i:Nat} {x:α} (h:ls[i]? =some x):r4 i ls=x::r4 (i+1) ls:=by
  obtain⟨hi,rfl⟩:=List.getElem?_eq_some_iff.1 h
  exact List.drop_eq_getElem_cons hi
theorem dZ {α:Type} {ls:List α} {i:Nat} (h:ls.length≤i):r4 i ls= []:=List.drop_of_length_le h
theorem rH {n i:Nat} (h:i < n):n - i=(n - (i+1))+1:=by omega
theorem wC {n i:Nat} (h:n≤i):n - i=0:=by omega
theorem yR {n bytes:Nat} (h:n *bytes≤211106232532992) (hb:Nat.ble bytes 1048576=true):(n+n / 4+192) *bytes≤281474976710656:=by
  have hb':bytes≤1048576:=Lj hb
  have a:(n / 4) *bytes *4≤n *bytes:=by
    rw [Nat.mul_right_comm]; exact Nat.mul_le_mul_right _ (Nat.div_mul_le_self n 4)
  rw [Nat.add_mul,Nat.add_mul]
  have c:192 *bytes≤192 *1048576:=Nat.mul_le_mul_left _ hb'
  omega
section
variable {P:Program} {n:Nat} {F:List (Nat × Value)} {w0 w:World} {D:Nat→Prop} {L:List HP} {op:Op} {ty:TypeId} {v:Value} {K:Value→World→Prop} {x y:Operand} {T t:TypeId} {g o:Nat} {cs cs' xs vs:List Value}
theorem IW {A:Option Addr} {k c m e size bytes:Nat} {news:List Value} {u:Value} {tx:TypeId} (el:Elem P t e size bytes) (H:Own w0 D w (row A k c xs e size::L)) (hx:ev F x=some (.slice A k c)) (hy:ev F y=some u) (hs:Src P size tx u m news w)
    (hb:Nat.ble bytes 1048576=true) (hbytes:k+m≤9223372036854775807∧(k+m) *bytes≤211106232532992) {s:Nat} {ys:List Value} (hsum:k+m=s) (hys:xs++news=ys) (h:∀ A' c' w',Own w0 D w' (row A' s c' ys e size::L)→K (.slice A' s c') w'):
    Do P n F w (.call ⟨.builtin .append, [x,y].toArray, [t,tx].toArray⟩) ty K:=fun a ha o i j next Q hn=>by
  obtain⟨A',c',w',hr,H'⟩:=H.append (P:=P) el hs o.type (by unfold maxLen; omega) fun _ ho'=>growslice_fits_wide ho' (yR hbytes.2 hb)
  unfold execOp
  rw [i]
  simp only [resolve,invoke,builtin,Sem.run_bind,Sem.run_pure,Result.andThen_ok,List.map_toArray,List.map_cons,List.map_nil,ha.eval hx,ha.eval hy,hr]
  subst hsum hys
  exact hn _ _ (h A' c' w' H')
theorem Own.rowC {A:Option Addr} {m c sz i:Nat} (H:Own w0 D w L) (hi:L[i]? =some (row A m c xs t sz)):m≤c∧c≤9223372036854775807:=by
  have:=H.rowLe hi; unfold maxLen at this; omega
end
theorem fD {α β:Type} {a x:α} {b y:β} (h:(a,b)=(x,y)):a=x∧b=y:=Prod.mk.inj h
theorem zR {α β γ:Type} {a x:α} {b y:β} {c z:γ} (h:(a,b,c)=(x,y,z)):a=x∧b=y∧c=z:=⟨(fD h).1,fD (fD h).2⟩
theorem fB (x:Int):IntKind.u64.wrap x=((Int.toNat (IntKind.u64.wrap x):Nat):Int):=by
  simp only [IntKind.wrap,IntKind.signed,IntKind.bits]; simp; omega
theorem Iu {w0 w:World} {D:Nat→Prop} {L:List HP} (H:Own w0 D w L):∃ a:Nat→Prop,Own w a w []∧(∀ φ,Ro w0 D φ→Ro w a φ)∧(∀ w' L',Own w a w' L'→Own w0 D w' (L'++L))∧
    (∀ (φ:World→Prop) (i:Nat) (R:HP),L[i]? =some R→(∀ w' h,R h→(∀ k o,h k=some o→w'.heap[k]? =some o)→φ w')→Ro w a φ):=
  Own.enter (L1:= []) (L2:=L) H
theorem IZ {w0 w:World} {D:Nat→Prop} {L:List HP} {c:HP} (H:Own w0 D w (c::L)):∃ a:Nat→Prop,Own w a w [c]∧(∀ φ,Ro w0 D φ→Ro w a φ)∧(∀ w' L',Own w a w' L'→Own w0 D w' (L'++L))∧
    (∀ (φ:World→Prop) (i:Nat) (R:HP),L[i]? =some R→(∀ w' h,R h→(∀ k o,h k=some o→w'.heap[k]? =some o)→φ w')→Ro w a φ):=
  Own.enter (L1:= [c]) (L2:=L) H
theorem IV {w0 w:World} {D:Nat→Prop} {L:List HP} {c e:HP} (H:Own w0 D w (c::e::L)):∃ a:Nat→Prop,Own w a w [c,e]∧(∀ φ,Ro w0 D φ→Ro w a φ)∧(∀ w' L',Own w a w' L'→Own w0 D w' (L'++L))∧
    (∀ (φ:World→Prop) (i:Nat) (R:HP),L[i]? =some R→(∀ w' h,R h→(∀ k o,h k=some o→w'.heap[k]? =some o)→φ w')→Ro w a φ):=
  Own.enter (L1:= [c,e]) (L2:=L) H
theorem Ja {w0 w:World} {D:Nat→Prop} {L:List HP} {c e j:HP} (H:Own w0 D w (c::e::j::L)):∃ a:Nat→Prop,Own w a w [c,e,j]∧(∀ φ,Ro w0 D φ→Ro w a φ)∧(∀ w' L',Own w a w' L'→Own w0 D w' (L'++L))∧
    (∀ (φ:World→Prop) (i:Nat) (R:HP),L[i]? =some R→(∀ w' h,R h→(∀ k o,h k=some o→w'.heap[k]? =some o)→φ w')→Ro w a φ):=
  Own.enter (L1:= [c,e,j]) (L2:=L) H
structure Ll (β:Type) where
  ls:List β
instance {β:Type}:Inhabited (Ll β):=⟨⟨[]⟩⟩
instance {β:Type}:Inhabited (Sv β):=⟨⟨none,0, []⟩⟩
theorem az {L:List HP} {R:HP} {φ:World→Prop} (hi:R ∈ L) (f:∀ w' h,R h→(∀ k o,h k=some o→w'.heap[k]? =some o)→φ w'):∀ w' h,sepL L h→(∀ k o,h k=some o→w'.heap[k]? =some o)→φ w':=fun w' h hs a=>
  let ⟨i,hi⟩:=List.mem_iff_getElem?.1 hi
  Fa hi f w' h hs a
theorem eY {α β:Type} {f:α→β} {ds:List α} {ls:List β} {i:Nat} {x:α} (h:s5 f ds=ls) (hx:ds[i]? =some x):ls[i]? =some (f x):=by
  rw [← h,List.getElem?_map,hx]; rfl
theorem aA {α β:Type} {f:α→β} {ds:List α} {ls:List β} (h:s5 f ds=ls):List.length ds=List.length ls:=by rw [← h,List.length_map]
theorem nu {α β:Type} {f:α→β} {ds es:List α} {ls ms:List β} (h:s5 f ds=ls) (a:s5 f es=ms):s5 f (ds++es)=ls++ms:=by rw [List.map_append,h,a]
theorem Own.sepAdd {w0 w:World} {D:Nat→Prop} {L L1 L2 a:List HP} (H:Own w0 D w (sepL L1::(L2++L))) (he:L1++L2=a):Own w0 D w (sepL a::L):=by
  subst he
  have h:=H.flat
  rw [← List.append_assoc] at h
  exact h.pack
section
variable {P:Program} {n:Nat} {F:List (Nat × Value)} {w:World} {op:Op} {ty:TypeId} {v:Value} {x:Operand} {ops:Array Oper} {rest:List Oper} {Q:Exit→Act→World→Prop} {pos:String} {aft:Array Edge} {d:Nat}
theorem Mv (hd:m3 d n=true) (hx:ev F x=some v) (h:WL P ops Q rest n ((d,v)::F) w):WL P ops Q (⟨some d, .move x,ty,pos,aft,none⟩::rest) n F w:=WL.val hd (IA hx) h
theorem As (hd:m3 d n=true) (hx:ev F x=some v) (h:WL P ops Q rest n ((d,v)::F) w):WL P ops Q (⟨some d, .assign x,ty,pos,aft,none⟩::rest) n F w:=WL.val hd (Jv hx) h
theorem Kn (hd:m3 d n=true) (hk:known F op.operands.toList=true) (hs:pI op=true) (hr:∀ W,(execOp (og F) ⟨none,op,ty, "", #[],none⟩).run P W= .ok (.value v) W) (h:WL P ops Q rest n ((d,v)::F) w):WL P ops Q (⟨some d,op,ty,pos,aft,none⟩::rest) n F w:=
  WL.val hd (JI hk hs hr) h
theorem Sk {j t:Nat} {b b':Bool} (hj:(ops[j]?).bind (·.dst)=some t) (hv:look F t=some (.bool b')) (hb:b'= !b) (hd:m3 d n=true) (h:WL P ops Q rest n ((d,undef)::F) w):
    WL P ops Q (⟨some d,op,ty,pos,aft,some (j,b)⟩::rest) n F w:=Ka hj hv hb hd h
end
def j3 (n:Nat):List Nat→Array Bool
  | []=>Array.replicate n false
  | i::r=>(j3 n r).setIfInBounds i true
def GX (P:Program) (ops:Array Oper) (Q:Exit→Act→World→Prop) (ks:List Nat) (Good:World→Prop) (fuel:Nat) (l:List Nat) (n:Nat) (F:List (Nat × Value)) (w:World):Prop:=
  bv Q→Region.noSelect ops=true→GW P ops Q (kY ks Good) fuel (j3 ops.size l) n F w
def tk (ops:Array Oper) (ks:List Nat) (rs:List (List Nat)) (i:Nat) (l:List Nat) (d n:Nat):Bool:=
  Region.free .any ops (j3 ops.size l) i && (Region.ready .any ops (j3 ops.size l)).contains i && ways ops i ks rs && m3 d n
section
variable {P:Program} {ops:Array Oper} {Q:Exit→Act→World→Prop} {ks:List Nat} {Good:World→Prop} {n:Nat} {F:List (Nat × Value)} {w:World} {op:Op} {ty:TypeId} {v:Value} {fuel:Nat} {l:List Nat} {pos:String} {aft:Array Edge} {d:Nat}
theorem Jr {i:Nat} {l:List Oper} (ks:List Nat) (Good:World→Prop) (hm:P.follows .mixedOrders=true) (hns:Region.noSelect l.toArray=true) (hQ:bv Q) (hS:Good w.drew)
    (h:GX P l.toArray Q ks Good l.length [] n F w.drew):Wp P (.region i l.toArray true) n F w Q:=
  KJ (kY ks Good) hm (.inr hS) (h hQ hns)
theorem GX.take {rs:List (List Nat)} (i:Nat) (hi:ops[i]? =some ⟨some d,op,ty,pos,aft,none⟩) (hk:tk ops ks rs i l d n=true)
    (hy:∀ W,Good W→Yl P n F W op ty v) (h:GX P ops Q ks Good fuel (i::l) n ((d,v)::F) w):GX P ops Q ks Good (fuel+1) l n F w:=fun hQ hs=>by
  simp only [tk,Bool.and_eq_true] at hk
  exact GW.take hi hs hk.2 hQ hk.1.1.1 hk.1.1.2 hk.1.2 rfl hy (h hQ hs)
theorem Iy {rs:List (List Nat)} (i:Nat) {j t:Nat} {b b':Bool} (hi:ops[i]? =some ⟨some d,op,ty,pos,aft,some (j,b)⟩) (hj:(ops[j]?).bind (·.dst)=some t) (hv:look F t=some (.bool b')) (hb:b'=b) (hk:tk ops ks rs i l d n=true)
    (hy:∀ W,Good W→Yl P n F W op ty v) (h:GX P ops Q ks Good fuel (i::l) n ((d,v)::F) w):GX P ops Q ks Good (fuel+1) l n F w:=fun hQ hs=>by
  simp only [tk,Bool.and_eq_true] at hk
  exact KL hi hj hv hb hs hk.2 hQ hk.1.1.1 hk.1.1.2 hk.1.2 rfl hy (h hQ hs)
theorem Ip {rs:List (List Nat)} (i:Nat) {j t:Nat} {b b':Bool} (hi:ops[i]? =some ⟨some d,op,ty,pos,aft,some (j,b)⟩) (hj:(ops[j]?).bind (·.dst)=some t) (hv:look F t=some (.bool b')) (hb:b'= !b) (hk:tk ops ks rs i l d n=true)
    (h:GX P ops Q ks Good fuel (i::l) n ((d,undef)::F) w):GX P ops Q ks Good (fuel+1) l n F w:=fun hQ hs=>by
  simp only [tk,Bool.and_eq_true] at hk
  exact KM hi hj hv hb hs hk.2 hQ hk.1.1.1 hk.1.1.2 hk.1.2 rfl (h hQ hs)
theorem IR {rs:List (List Nat)} (i:Nat) {j t:Nat} {b:Bool} (hi:ops[i]? =some ⟨some d,op,ty,pos,aft,some (j,b)⟩) (hj:(ops[j]?).bind (·.dst)=some t) (hv:look F t=some undef) (hk:tk ops ks rs i l d n=true)
    (h:GX P ops Q ks Good fuel (i::l) n ((d,undef)::F) w):GX P ops Q ks Good (fuel+1) l n F w:=fun hQ hs=>by
  simp only [tk,Bool.and_eq_true] at hk
  exact KD hi hj hv hs hk.2 hQ hk.1.1.1 hk.1.1.2 hk.1.2 rfl (h hQ hs)
def G7 (ops:Array Oper) (ks:List Nat) (i:Nat) (l:List Nat) (d n:Nat):Bool:=
  Region.free .any ops (j3 ops.size l) i && (Region.ready .any ops (j3 ops.size l)).contains i && !(ks.contains i) && m3 d n
theorem I4 (i:Nat) (hi:ops[i]? =some ⟨some d,op,ty,pos,aft,none⟩) (hk:G7 ops ks i l d n=true)
    (hy:∀ W,Yl P n F W op ty v) (h:GX P ops Q ks Good fuel (i::l) n ((d,v)::F) w):GX P ops Q ks Good (fuel+1) l n F w:=fun hQ hs=>by
  simp only [G7,Bool.and_eq_true,Bool.not_eq_true'] at hk
  exact KN hi hs hk.2 hQ hk.1.1.1 hk.1.1.2 hk.1.2 rfl hy (h hQ hs)
theorem JZ {Good':World→Prop} (hle:∀ W,Good' W→Good W) (a:Good' w) (h:GX P ops Q ks Good' fuel l n F w):GX P ops Q ks Good fuel l n F w:=fun hQ hs=>GW.more hle a (h hQ hs)
def dx (ops:Array Oper) (i:Nat) (l:List Nat):Bool:=decide (Region.ready .any ops (j3 ops.size l)= [i])
theorem GX.do (i:Nat) (hi:ops[i]? =some ⟨some d,op,ty,pos,aft,none⟩) (hk:(dx ops i l && m3 d n)=true)
    (h:Do P n F w op ty fun v w'=>(ks.any (fun k=>(j3 ops.size (i::l)).getD k false)=true∨Good w')∧GX P ops Q ks Good fuel (i::l) n ((d,v)::F) w'):GX P ops Q ks Good (fuel+1) l n F w:=fun hQ hs=>by
  simp only [dx,Bool.and_eq_true,decide_eq_true_eq] at hk
  exact GW.do hi hk.2 hk.1 rfl (h.mono fun v w' k=>⟨k.1,k.2 hQ hs⟩)
theorem KZ (i:Nat) (hi:ops[i]? =some ⟨none,op,ty,pos,aft,none⟩) (hk:dx ops i l=true)
    (h:Do P n F w op ty fun _ w'=>(ks.any (fun k=>(j3 ops.size (i::l)).getD k false)=true∨Good w')∧GX P ops Q ks Good fuel (i::l) n F w'):GX P ops Q ks Good (fuel+1) l n F w:=fun hQ hs=>by
  simp only [dx,decide_eq_true_eq] at hk
  exact KW hi hk rfl (h.mono fun v w' k=>⟨k.1,k.2 hQ hs⟩)
theorem Jl (i:Nat) {j t:Nat} {b b':Bool} (hi:ops[i]? =some ⟨some d,op,ty,pos,aft,some (j,b)⟩) (hj:(ops[j]?).bind (·.dst)=some t) (hv:look F t=some (.bool b')) (hb:b'=b) (hk:(dx ops i l && m3 d n)=true)
    (h:Do P n F w op ty fun v w'=>(ks.any (fun k=>(j3 ops.size (i::l)).getD k false)=true∨Good w')∧GX P ops Q ks Good fuel (i::l) n ((d,v)::F) w'):GX P ops Q ks Good (fuel+1) l n F w:=fun hQ hs=>by
  simp only [dx,Bool.and_eq_true,decide_eq_true_eq] at hk
  exact KY hi hj hv hb hk.2 hk.1 rfl (h.mono fun v w' k=>⟨k.1,k.2 hQ hs⟩)
theorem KV (hk:(Region.ready .any ops (j3 ops.size l)).isEmpty=true) (h:Fin Q .normal n F w):GX P ops Q ks Good fuel l n F w:=fun _ _=>
  KT (List.isEmpty_iff.1 hk) h
end
end Go.Proofs.YtbkagebjhbphaaaGreat
