/-
  Strings, indexes, cuts as steps.
  Conditions: none beyond each law's own.
-/
import Derived.Test.YtbkagebjhbphaaaGreatKe
import Derived.Sort.Walk0
namespace Go.Proofs.YtbkagebjhbphaaaGreat
open List renaming append_assoc→q4,drop→r3,drop_length_add_append→q6,flatMap→q3,flatMap_append→r4,flatMap_cons→q0,getElem?_cons_succ→q2,getElem?_cons_zero→p6,getElem?_eq_some_iff→p7,take→q7,take_length_add_append→q5
open Nat renaming add_mul→p4,zero_mul→q1
set_option linter.unusedVariables false
set_option linter.unusedSimpArgs false
open Go.RowKit
section
variable {P:Program} {n:Nat} {F:List (Nat × Value)} {w:World} {ty T:TypeId} {x y:Operand} {a b l:List UInt8}
theorem sW (a b:List UInt8):(a==b)=decide (a=b):=by by_cases h:a=b <;> simp [h]
theorem JE {op:BinOp} {v u r:Value} {yt:TypeId} (hx:ev F x=some v) (hy:ev F y=some u) (hg:∀ x y,eqGuard op T x y v u=pure ()) (hr:(binOp op T v u).run P w= .ok r w):Yl P n F w (.binOp op T x y yt) ty r:=fun ac ha o d _=>by
  unfold execOp
  rw [d]
  simp only [ha.eval hx,ha.eval hy,hg,Sem.run_bind,Sem.run_pure,Result.andThen_ok,hr]
theorem wR (op:BinOp) (t:TypeId) (s:ByteArray) (v:Value) (x y:Operand):eqGuard op t x y (.string s) v=pure ():=by cases op <;> rfl
theorem JJ {yt:TypeId} (hx:ev F x=some (.string ⟨a.toArray⟩)) (hy:ev F y=some (.string ⟨b.toArray⟩)):Yl P n F w (.binOp .eql T x y yt) ty (.bool (decide (a=b))):=
  JE hx hy (wR _ _ _ _) (by rw [binOp_string_eql,ByteArray.toList_mk,ByteArray.toList_mk,sW]; rfl)
theorem Js {yt:TypeId} (hx:ev F x=some (.string ⟨a.toArray⟩)) (hy:ev F y=some (.string ⟨b.toArray⟩)):Yl P n F w (.binOp .neq T x y yt) ty (.bool (decide (a≠b))):=
  JE hx hy (wR _ _ _ _) (by rw [binOp_string_neq,ByteArray.toList_mk,ByteArray.toList_mk,sW]; simp)
theorem J3 {yt:TypeId} (hx:ev F x=some (.string ⟨a.toArray⟩)) (hy:ev F y=some (.string ⟨b.toArray⟩)):Yl P n F w (.binOp .lss T x y yt) ty (.bool (Op.bytesLess a b)):=
  JE hx hy (wR _ _ _ _) (by rw [binOp_string_lss,ByteArray.toList_mk,ByteArray.toList_mk]; rfl)
theorem JA {yt:TypeId} (hx:ev F x=some (.string ⟨a.toArray⟩)) (hy:ev F y=some (.string ⟨b.toArray⟩)):Yl P n F w (.binOp .leq T x y yt) ty (.bool (Op.bytesLess a b || decide (a=b))):=
  JE hx hy (wR _ _ _ _) (by rw [binOp_string_leq,ByteArray.toList_mk,ByteArray.toList_mk,sW]; rfl)
theorem Cu (a b:List UInt8):Op.bytesLess a b=decide (a < b):=by rw [Proofs.bytesLess_eq]
theorem zN (a b:List UInt8):(Op.bytesLess a b || decide (a=b))=decide (a≤b):=by
  rw [Cu]
  by_cases d:a < b
  · have:a≤b:=by grind
    simp [d,this]
  · by_cases f:a=b
    · subst f; have:a≤a:=by grind
      simp [this]
    · have: ¬ a≤b:=by grind
      simp [d,f,this]
variable {A:Option Addr} {m c e sz bytes:Nat}
def jS (A:Option Addr) (lo sz c:Nat):Option Addr:=if c=lo then A else A.map (·.add (lo *sz))
theorem lq {lo:Nat} (h:A=some ⟨ab A,ao A,none⟩) (hlt:lo < c):jS A lo sz c=some ⟨ab A,ao A+lo *sz,none⟩:=by
  unfold jS
  rw [if_neg e6,h]
  simp [add0,ab,ao]
theorem bE.cut {lo hi:Nat} {xs:List Value} (h:bE w sz A m xs) (d:lo≤hi) (f:hi≤m) (hc:m≤c):bE w sz (jS A lo sz c) (hi - lo) ((xs.drop (lo *sz)).take ((hi - lo) *sz)):=
  h.sub e6 fun hp=>lq (h.isSome e6) e6
theorem pE {t:TypeId} (ht:P.underlying t=some (.slice e)):P.elem t=e:=by simp [Program.elem,ht]
theorem Cv {lo hi mx:Option Value} (hu:P.underlying T=some (.slice e)):(Instr.sliceAt T (.slice A m c) lo hi mx).run P w=(Instr.slice T (.slice A m c) lo hi mx).run P w:=by
  simp [Instr.sliceAt,run_underlying hu]
theorem EP (el:Elem P T e sz bytes) {i j:Nat} {k k':IntKind} (d:i≤j) (f:j≤c):(Instr.slice T (.slice A m c) (some (.int k (i:Int))) (some (.int k' (j:Int))) none).run P w= .ok (.slice (jS A i sz c) (j - i) (c - i)) w:=by
  obtain⟨q,_,ht,hi,_,rfl,_⟩:=el
  have ht':P.underlying T=some (.slice (P.elem T)):=by rw [pE ht]; exact ht
  rw [run_slice_lh w T A m c ht' k k' i j e6 e6 e6]
  simp [pE ht,sizeOf,typeInfo,hi,Result.andThen,sliced,jS]
theorem Bv (el:Elem P T e sz bytes) {i:Nat} {k:IntKind} (d:i≤m):(Instr.slice T (.slice A m c) (some (.int k (i:Int))) none none).run P w= .ok (.slice (jS A i sz c) (m - i) (c - i)) w:=by
  obtain⟨q,_,ht,hi,_,rfl,_⟩:=el
  have ht':P.underlying T=some (.slice (P.elem T)):=by rw [pE ht]; exact ht
  rw [run_slice_l w T A m c ht' k i e6 e6]
  simp [pE ht,sizeOf,typeInfo,hi,Result.andThen,sliced,jS]
theorem CS (el:Elem P T e sz bytes) {j:Nat} {k:IntKind} (d:j≤c):(Instr.slice T (.slice A m c) none (some (.int k (j:Int))) none).run P w= .ok (.slice A j c) w:=by
  obtain⟨q,_,ht,hi,_,rfl,_⟩:=el
  have ht':P.underlying T=some (.slice (P.elem T)):=by rw [pE ht]; exact ht
  rw [run_slice_h w T A m c ht' k j e6 e6]
  simp [pE ht,sizeOf,typeInfo,hi,Result.andThen,sliced]
  cases A <;> simp [Addr.add]
theorem JX {v:Value} {lo hi mx:Option Operand} {lo' hi' mx':Option Value} (el:Elem P T e sz bytes) (hx:ev F x=some (.slice A m c)) (hlo:lo.map (ev F)=lo'.map some) (hhi:hi.map (ev F)=hi'.map some) (hmx:mx.map (ev F)=mx'.map some) (hr:(Instr.slice T (.slice A m c) lo' hi' mx').run P w= .ok v w):
    Yl P n F w (.slice T x lo hi mx) ty v:=fun ac ha o d _=>by
  have key:∀ (a:Option Operand) (b:Option Value),a.map (ev F)=b.map some→a.map ac.eval=b:=fun a b h=>by
    cases a <;> cases b <;> simp at h ⊢
    exact ha.eval h
  unfold execOp
  rw [d]
  simp only [ha.eval hx,key _ _ hlo,key _ _ hhi,key _ _ hmx,Sem.run_bind,Cv el.und,hr,Sem.run_pure,Result.andThen_ok]
theorem Yl.cut {lx hx':Operand} {i j:Nat} {k k':IntKind} (el:Elem P T e sz bytes) (hx:ev F x=some (.slice A m c)) (hl:ev F lx=some (.int k (i:Int))) (hh:ev F hx'=some (.int k' (j:Int))) (d:i≤j) (f:j≤c):Yl P n F w (.slice T x (some lx) (some hx') none) ty (.slice (jS A i sz c) (j - i) (c - i)):=
  JX el hx (lo':=some (.int k (i:Int))) (hi':=some (.int k' (j:Int))) (mx':=none) (by simp [hl]) (by simp [hh]) rfl (EP el d f)
theorem IV {lx:Operand} {i:Nat} {k:IntKind} (el:Elem P T e sz bytes) (hx:ev F x=some (.slice A m c)) (hl:ev F lx=some (.int k (i:Int))) (d:i≤m):Yl P n F w (.slice T x (some lx) none none) ty (.slice (jS A i sz c) (m - i) (c - i)):=
  JX el hx (lo':=some (.int k (i:Int))) (hi':=none) (mx':=none) (by simp [hl]) rfl rfl (Bv el d)
theorem Jc {hx':Operand} {j:Nat} {k:IntKind} (el:Elem P T e sz bytes) (hx:ev F x=some (.slice A m c)) (hh:ev F hx'=some (.int k (j:Int))) (d:j≤c):Yl P n F w (.slice T x none (some hx') none) ty (.slice A j c):=
  JX el hx (lo':=none) (hi':=some (.int k (j:Int))) (mx':=none) rfl (by simp [hh]) rfl (CS el d)
theorem Ij {i:Nat} {k:IntKind} (el:Elem P T e sz bytes) (hx:ev F x=some (.slice A m c)) (hy:ev F y=some (.int k (i:Int))) (hA:A=some ⟨ab A,ao A,none⟩) (hi:i < m):Yl P n F w (.indexAddr T x y) ty (.pointer (some ⟨ab A,ao A+i *sz,none⟩)):=fun ac ha o d _=>by
  obtain⟨q,_,ht,hq,_,rfl,_⟩:=el
  unfold execOp
  rw [d]
  have ht':P.underlying T=some (.slice (P.elem T)):=by rw [pE ht]; exact ht
  have:=run_indexAt_slice (P:=P) w T ⟨ab A,ao A,none⟩ m c k i ht'
  simp only [ha.eval hx,ha.eval hy]
  rw [hA]
  simp only [Sem.run_bind,this]
  rw [if_pos e6]
  simp [pE ht,sizeOf,typeInfo,hq,Result.andThen,add0,ab,ao]
theorem I9 {yt:TypeId} {m' c':Nat} (hu:P.underlying T=some (.slice e)) (hx:ev F x=some (.slice A m c)) (hy:ev F y=some (.slice none m' c')):Yl P n F w (.binOp .eql T x y yt) ty (.bool A.isNone):=
  JE hx hy (fun _ _=>rfl) (Lib.run_eql_slice_nil w T e A m c m' c' hu)
end
theorem wS {α:Type} {enc:α→List Value} {sz:Nat} (hz:∀ x,(enc x).length=sz):∀ {ls:List α} {i:Nat} {x:α} {f:Nat} {v:Value},ls[i]? =some x→(enc x)[f]? =some v→(ls.flatMap enc)[i *sz+f]? =some v
  | [],_,_,_,_,h,_=>by simp at h
  | y::ls,0,x,f,v,h,hf=>by
    simp only [p6,Option.some.injEq] at h
    subst h
    have:=(p7.1 hf).1
    rw [q0,q1,Nat.zero_add,List.getElem?_append_left this]; exact hf
  | y::ls,i+1,x,f,v,h,hf=>by
    simp only [q2] at h
    have ih:=wS hz h hf
    rw [q0,List.getElem?_append_right (by rw [hz,p4]; omega),hz,show (i+1) *sz+f - sz=i *sz+f by rw [p4]; omega]
    exact ih
theorem jU {α:Type} {enc:α→List Value} {sz:Nat} (hz:∀ x,(enc x).length=sz):∀ (ls:List α),(ls.flatMap enc).length=ls.length *sz
  | []=>by simp
  | y::ls=>by rw [q0,List.length_append,hz,jU hz ls,List.length_cons,p4,Nat.one_mul,Nat.add_comm]
theorem jN {α:Type} {ls:List α} {i:Nat} (h:i < ls.length):∃ x,ls[i]? =some x:=⟨_,List.getElem?_eq_getElem h⟩
theorem jR.elem {α:Type} {w:World} {g o:Nat} {enc:α→List Value} {sz:Nat} (hz:∀ x,(enc x).length=sz) {ls:List α} {i:Nat} {x:α} (h:jR w g o (ls.flatMap enc)) (hx:ls[i]? =some x):jR w g (o+i *sz) (enc x):=
  h.sub fun _ _ hj=>wS hz hx hj
theorem bE.elem {α:Type} {w:World} {A:Option Addr} {n:Nat} {enc:α→List Value} {sz:Nat} (hz:∀ x,(enc x).length=sz) {ls:List α} {i:Nat} {x:α} (h:bE w sz A n (ls.flatMap enc)) (hx:ls[i]? =some x) (hp:0 < sz):jR w (ab A) (ao A+i *sz) (enc x):=by
  have hi:=(p7.1 hx).1
  have hl:=h.1
  rw [jU hz] at hl
  have hn:0 < n:=by
    rcases Nat.eq_zero_or_pos n with e | e
    · rw [e,q1] at hl
      have:ls.length *sz≠0:=Nat.mul_ne_zero e6 e6
      omega
    · exact e
  exact(h.cls hn).elem hz hx
theorem bE.len {α:Type} {w:World} {A:Option Addr} {n:Nat} {enc:α→List Value} {sz:Nat} (hz:∀ x,(enc x).length=sz) {ls:List α} (h:bE w sz A n (ls.flatMap enc)) (hp:0 < sz):ls.length=n:=by
  have hl:=h.1
  rw [jU hz] at hl
  exact Nat.eq_of_mul_eq_mul_right hp hl
theorem bE.addr {w:World} {A:Option Addr} {n sz:Nat} {xs:List Value} (h:bE w sz A n xs) {i:Nat} (hi:i < n):A=some ⟨ab A,ao A,none⟩:=h.isSome e6
theorem Gw (a b:Nat):Int.tmod (a:Int) (b:Int)=((a % b:Nat):Int):=rfl
def eB (b:UInt8):List Value:= [.int .u8 (b.toNat:Int)]
theorem zY {α:Type} (f:α→Value):∀ l:List α,l.flatMap (fun x=> [f x])=l.map f
  | []=>rfl
  | x::l=>by rw [q0,zY f l]; rfl
theorem CU (l:List UInt8):q3 eB l=l.map fun b=>Value.int .u8 (b.toNat:Int):=zY _ l
theorem fU {α:Type} {enc:α→List Value} (h:∀ x, ∀ u ∈ enc x,u.oneCell'=true) (ls:List α):∀ u ∈ q3 enc ls,u.oneCell'=true:=fun u hu=>by
  obtain⟨x,_,hx⟩:=List.mem_flatMap.1 hu
  exact h x u hx
theorem xX:∀ b, ∀ u ∈ eB b,u.oneCell'=true:=fun b u hu=>by
  unfold eB at hu
  rw [List.mem_singleton] at hu
  subst hu; rfl
section
variable {P:Program} {n:Nat} {F:List (Nat × Value)} {w0 w:World} {D:Nat→Prop} {L:List HP} {ty:TypeId} {K:Value→World→Prop} {x:Operand}
theorem JF {src dst e:TypeId} {A:Option Addr} {m c:Nat} {l:List UInt8} (hs:P.underlying src=some (.slice e)) (he:P.underlying e=some (.int .u8)) (hd:P.underlying dst=some .string) (hr:bE w 1 A m (q3 eB l)) (hx:ev F x=some (.slice A m c)):
    Yl P n F w (.convert src dst x) ty (.string ⟨l.toArray⟩):=Ka hs he hd (by rw [← CU]; exact hr) hx
end
theorem jV {α:Type} {enc:α→List Value} {sz:Nat} (hz:∀ x,(enc x).length=sz) {x y:α} {f:Nat} {vs:List Value} (hp:put (enc x) f vs=enc y) (hf:f+vs.length≤sz):∀ {ls:List α} {i:Nat},ls[i]? =some x→put (q3 enc ls) (i *sz+f) vs=q3 enc (ls.set i y)
  | [],_,h=>by simp at h
  | z::ls,0,h=>by
    simp only [p6,Option.some.injEq] at h
    subst h
    have hl:=hz z
    rw [List.set_cons_zero,q0,q0, ← hp,q1,Nat.zero_add]
    unfold put
    rw [List.take_append_of_le_length e6,List.drop_append_of_le_length e6]
    simp only [q4]
  | z::ls,i+1,h=>by
    simp only [q2] at h
    have ih:=jV hz hp hf h
    have hl:=hz z
    rw [List.set_cons_succ,q0,q0, ← ih]
    have e:(i+1) *sz+f=(enc z).length+(i *sz+f):=by rw [hl,p4]; omega
    rw [e]
    unfold put
    rw [q5,show (enc z).length+(i *sz+f)+vs.length=(enc z).length+((i *sz+f)+vs.length) by omega,q6]
    simp only [q4]
section
variable {α:Type} {enc:α→List Value} {sz:Nat}
theorem oU (hz:∀ x,(enc x).length=sz):∀ (ls:List α) (k:Nat),(q3 enc ls).take (k *sz)=q3 enc (ls.take k)
  | [],k=>by simp
  | x::ls,0=>by simp
  | x::ls,k+1=>by
    rw [List.take_succ_cons,q0,q0, ← oU hz ls k]
    have e:(k+1) *sz=(enc x).length+k *sz:=by rw [hz,p4]; omega
    rw [e,q5]
theorem rX (hz:∀ x,(enc x).length=sz):∀ (ls:List α) (k:Nat),(q3 enc ls).drop (k *sz)=q3 enc (ls.drop k)
  | [],k=>by simp
  | x::ls,0=>by simp
  | x::ls,k+1=>by
    rw [List.drop_succ_cons,q0, ← rX hz ls k]
    have e:(k+1) *sz=(enc x).length+k *sz:=by rw [hz,p4]; omega
    rw [e,q6]
theorem bE.cutE {w:World} {A:Option Addr} {m c lo hi:Nat} {ls:List α} (hz:∀ x,(enc x).length=sz) (h:bE w sz A m (q3 enc ls)) (d:lo≤hi) (f:hi≤m) (hc:m≤c):bE w sz (jS A lo sz c) (hi - lo) (q3 enc (q7 (hi - lo) (r3 lo ls))):=by
  have:=h.cut d f hc
  rw [rX hz,oU hz] at this
  exact this
theorem Jq {w:World} {A:Option Addr} {m c lo:Nat} {ls:List α} (hz:∀ x,(enc x).length=sz) (h:bE w sz A m (q3 enc ls)) (d:lo≤m) (hc:m≤c) (hp:0 < sz):bE w sz (jS A lo sz c) (m - lo) (q3 enc (r3 lo ls)):=by
  have:=h.cutE hz d (Nat.le_refl m) hc
  rw [List.take_of_length_le (by rw [List.length_drop,h.len hz hp]; exact Nat.le_refl _)] at this
  exact this
theorem Ke {w:World} {A:Option Addr} {m hi:Nat} {ls:List α} (hz:∀ x,(enc x).length=sz) (h:bE w sz A m (q3 enc ls)) (d:hi≤m):bE w sz A hi (q3 enc (q7 hi ls)):=by
  have:=h.sub (k:=0) (m:=hi) (A':=A) e6 (fun hp=>by rw [q1,Nat.add_zero]; exact h.isSome e6)
  rw [q1,List.drop_zero,oU hz] at this
  exact this
theorem zZ (hz:∀ x,(enc x).length=sz) (ls ss:List α) (lo k:Nat) (hk:k≤ss.length):put (q3 enc ls) (lo *sz) ((q3 enc ss).take (k *sz))=q3 enc (q7 lo ls++(q7 k ss++r3 (lo+k) ls)):=by
  have hl:((q3 enc ss).take (k *sz)).length=k *sz:=by
    rw [List.length_take,jU hz]
    exact Nat.min_eq_left (Nat.mul_le_mul_right _ hk)
  unfold put
  rw [hl, ← p4,oU hz,oU hz,rX hz,r4,r4,q4]
end
end Go.Proofs.YtbkagebjhbphaaaGreat
