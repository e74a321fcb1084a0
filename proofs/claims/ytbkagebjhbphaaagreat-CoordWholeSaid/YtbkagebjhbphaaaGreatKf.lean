/-
  Strings, indexes, cuts as steps.
  Conditions: none beyond each law's own.
-/
import Derived.Test.YtbkagebjhbphaaaGreatKe
import Derived.Sort.Walk0
namespace Go.Proofs.YtbkagebjhbphaaaGreat
open List renaming append_assoc→q5,drop→r4,drop_length_add_append→q7,flatMap→q4,flatMap_append→r5,flatMap_cons→q1,getElem?_cons_succ→q3,getElem?_cons_zero→q0,getElem?_eq_getElem→p7,getElem?_eq_some_iff→p6,take→r3,take_length_add_append→q6
open Nat renaming add_mul→p4,zero_mul→q2
set_option linter.unusedVariables false
set_option linter.unusedSimpArgs false
open Go.RowKit
section
variable {P:Program} {n:Nat} {F:List (Nat × Value)} {w:World} {ty T:TypeId} {x y:Operand} {a b l:List UInt8}
theorem sG (a b:List UInt8):(a==b)=decide (a=b):=by by_cases h:a=b <;> simp [h]
theorem JB {op:BinOp} {v u r:Value} {yt:TypeId} (hx:ev F x=some v) (hy:ev F y=some u) (hg:∀ x y,eqGuard op T x y v u=pure ()) (hr:(binOp op T v u).run P w= .ok r w):Yl P n F w (.binOp op T x y yt) ty r:=fun ac ha o d _=>by
  unfold execOp
  rw [d]
  simp only [ha.eval hx,ha.eval hy,hg,Sem.run_bind,Sem.run_pure,Result.andThen_ok,hr]
theorem sQ (op:BinOp) (t:TypeId) (s:ByteArray) (v:Value) (x y:Operand):eqGuard op t x y (.string s) v=pure ():=by cases op <;> rfl
theorem JC {yt:TypeId} (hx:ev F x=some (.string ⟨a.toArray⟩)) (hy:ev F y=some (.string ⟨b.toArray⟩)):Yl P n F w (.binOp .eql T x y yt) ty (.bool (decide (a=b))):=
  JB hx hy (sQ _ _ _ _) (by rw [binOp_string_eql,ByteArray.toList_mk,ByteArray.toList_mk,sG]; rfl)
theorem I6 {yt:TypeId} (hx:ev F x=some (.string ⟨a.toArray⟩)) (hy:ev F y=some (.string ⟨b.toArray⟩)):Yl P n F w (.binOp .neq T x y yt) ty (.bool (decide (a≠b))):=
  JB hx hy (sQ _ _ _ _) (by rw [binOp_string_neq,ByteArray.toList_mk,ByteArray.toList_mk,sG]; simp)
theorem JK {yt:TypeId} (hx:ev F x=some (.string ⟨a.toArray⟩)) (hy:ev F y=some (.string ⟨b.toArray⟩)):Yl P n F w (.binOp .lss T x y yt) ty (.bool (Op.bytesLess a b)):=
  JB hx hy (sQ _ _ _ _) (by rw [binOp_string_lss,ByteArray.toList_mk,ByteArray.toList_mk]; rfl)
theorem JD {yt:TypeId} (hx:ev F x=some (.string ⟨a.toArray⟩)) (hy:ev F y=some (.string ⟨b.toArray⟩)):Yl P n F w (.binOp .leq T x y yt) ty (.bool (Op.bytesLess a b || decide (a=b))):=
  JB hx hy (sQ _ _ _ _) (by rw [binOp_string_leq,ByteArray.toList_mk,ByteArray.toList_mk,sG]; rfl)
theorem JL {yt:TypeId} (hx:ev F x=some (.string ⟨a.toArray⟩)) (hy:ev F y=some (.string ⟨b.toArray⟩)):Yl P n F w (.binOp .geq T x y yt) ty (.bool (!(Op.bytesLess a b))):=
  JB hx hy (sQ _ _ _ _) (by rw [binOp_string_geq,ByteArray.toList_mk,ByteArray.toList_mk]; rfl)
theorem wz (a b:List UInt8):Op.bytesLess a b=decide (a < b):=by rw [Proofs.bytesLess_eq]
theorem xI (a b:List UInt8):(Op.bytesLess a b || decide (a=b))=decide (a≤b):=by
  rw [wz]
  by_cases d:a < b
  · have:a≤b:=by grind
    simp [d,this]
  · by_cases f:a=b
    · subst f; have:a≤a:=by grind
      simp [this]
    · have: ¬ a≤b:=by grind
      simp [d,f,this]
theorem zz (a b:List UInt8):(!(Op.bytesLess a b))=decide (b≤a):=by
  rw [wz]
  by_cases h:a < b
  · have: ¬ b≤a:=by grind
    simp [h,this]
  · have:b≤a:=by grind
    simp [h,this]
theorem J3 {yt:TypeId} (hx:ev F x=some (.string ⟨a.toArray⟩)) (hy:ev F y=some (.string ⟨b.toArray⟩)) (hl:a.length+b.length≤9223372036854775807):Yl P n F w (.binOp .add T x y yt) ty (.string ⟨(a++b).toArray⟩):=
  JB hx hy (sQ _ _ _ _) (by
    have d:(⟨a.toArray⟩:ByteArray).size=a.length:=by simp [ByteArray.size]
    have f:(⟨b.toArray⟩:ByteArray).size=b.length:=by simp [ByteArray.size]
    have:=run_string_add_sum (P:=P) w ⟨a.toArray⟩ ⟨b.toArray⟩ (by rw [d,f]; exact hl)
    have e:(⟨a.toArray⟩++⟨b.toArray⟩:ByteArray)=⟨(a++b).toArray⟩:=by
      apply ByteArray.ext
      rw [ByteArray.data_append]
      simp
    rw [← e]
    exact this)
theorem JS {k:IntKind} {i:Nat} {c:UInt8} (hu:P.underlying T=some .string) (hx:ev F x=some (.string ⟨l.toArray⟩)) (hy:ev F y=some (.int k (i:Int))) (hc:l[i]? =some c):Yl P n F w (.index T x y) ty (.int .u8 (c.toNat:Int)):=fun ac ha o d _=>by
  unfold execOp
  rw [d]
  have hi:=(p6.1 hc).1
  have f:(⟨l.toArray⟩:ByteArray)[i]? =some c:=by
    have hs:i < (⟨l.toArray⟩:ByteArray).size:=by simpa [ByteArray.size] using hi
    have e:(⟨l.toArray⟩:ByteArray)[i]? =some ((⟨l.toArray⟩:ByteArray)[i]'hs):=getElem?_pos (⟨l.toArray⟩:ByteArray) i hs
    rw [e]
    rw [p7 hi] at hc
    rw [← hc]
    rfl
  simp only [ha.eval hx,ha.eval hy,Instr.index,asIntOf,Sem.run_bind,Sem.run_pure,Result.andThen_ok,run_underlying hu]
  rw [if_pos e6,Int.toNat_natCast,f]
  rfl
theorem Bg (l:List UInt8) (i j:Nat):(⟨l.toArray⟩:ByteArray).extract i j=⟨((l.take j).drop i).toArray⟩:=by
  apply ByteArray.ext
  apply Array.ext'
  simp [List.extract_eq_take_drop,List.drop_take]
theorem D8 (l:List UInt8):(⟨l.toArray⟩:ByteArray).size=l.length:=by simp [ByteArray.size]
theorem Bh {lo hi mx:Option Value} (hu:P.underlying T=some .string):(Instr.sliceAt T (.string ⟨l.toArray⟩) lo hi mx).run P w=(Instr.slice T (.string ⟨l.toArray⟩) lo hi mx).run P w:=by
  simp [Instr.sliceAt,run_underlying hu]
theorem KO {j:Nat} {k:IntKind} {hx':Operand} (hu:P.underlying T=some .string) (hx:ev F x=some (.string ⟨l.toArray⟩)) (hh:ev F hx'=some (.int k (j:Int))) (hj:j≤l.length):
    Yl P n F w (.slice T x none (some hx') none) ty (.string ⟨(l.take j).toArray⟩):=fun ac ha o d _=>by
  unfold execOp
  rw [d]
  have:(Instr.slice T (.string ⟨l.toArray⟩) none (some (.int k (j:Int))) none).run P w= .ok (.string ⟨(l.take j).toArray⟩) w:=by
    simp [Instr.slice,run_underlying hu,Instr.sliceBounds,Instr.sliceBound,asIntOf,D8,Result.andThen]
    rw [if_pos e6]
    simp [Bg]
  simp only [ha.eval hx,Option.map_some,Option.map_none,ha.eval hh,Sem.run_bind,Bh hu,this,Sem.run_pure,Result.andThen_ok]
variable {A:Option Addr} {m c e sz bytes:Nat}
def jw (A:Option Addr) (lo sz c:Nat):Option Addr:=if c=lo then A else A.map (·.add (lo *sz))
theorem kS {lo:Nat} (h:A=some ⟨ab A,ao A,none⟩) (hlt:lo < c):jw A lo sz c=some ⟨ab A,ao A+lo *sz,none⟩:=by
  unfold jw
  rw [if_neg e6,h]
  simp [add0,ab,ao]
theorem aY.cut {lo hi:Nat} {xs:List Value} (h:aY w sz A m xs) (d:lo≤hi) (f:hi≤m) (hc:m≤c):aY w sz (jw A lo sz c) (hi - lo) ((xs.drop (lo *sz)).take ((hi - lo) *sz)):=
  h.sub e6 fun hp=>kS (h.isSome e6) e6
theorem oM {t:TypeId} (ht:P.underlying t=some (.slice e)):P.elem t=e:=by simp [Program.elem,ht]
theorem Cm {lo hi mx:Option Value} (hu:P.underlying T=some (.slice e)):(Instr.sliceAt T (.slice A m c) lo hi mx).run P w=(Instr.slice T (.slice A m c) lo hi mx).run P w:=by
  simp [Instr.sliceAt,run_underlying hu]
theorem E9 (el:Elem P T e sz bytes) {i j:Nat} {k k':IntKind} (d:i≤j) (f:j≤c):(Instr.slice T (.slice A m c) (some (.int k (i:Int))) (some (.int k' (j:Int))) none).run P w= .ok (.slice (jw A i sz c) (j - i) (c - i)) w:=by
  obtain⟨q,_,ht,hi,_,rfl,_⟩:=el
  have ht':P.underlying T=some (.slice (P.elem T)):=by rw [oM ht]; exact ht
  rw [run_slice_lh w T A m c ht' k k' i j e6 e6 e6]
  simp [oM ht,sizeOf,typeInfo,hi,Result.andThen,sliced,jw]
theorem Bi (el:Elem P T e sz bytes) {i:Nat} {k:IntKind} (d:i≤m):(Instr.slice T (.slice A m c) (some (.int k (i:Int))) none none).run P w= .ok (.slice (jw A i sz c) (m - i) (c - i)) w:=by
  obtain⟨q,_,ht,hi,_,rfl,_⟩:=el
  have ht':P.underlying T=some (.slice (P.elem T)):=by rw [oM ht]; exact ht
  rw [run_slice_l w T A m c ht' k i e6 e6]
  simp [oM ht,sizeOf,typeInfo,hi,Result.andThen,sliced,jw]
theorem CU (el:Elem P T e sz bytes) {j:Nat} {k:IntKind} (d:j≤c):(Instr.slice T (.slice A m c) none (some (.int k (j:Int))) none).run P w= .ok (.slice A j c) w:=by
  obtain⟨q,_,ht,hi,_,rfl,_⟩:=el
  have ht':P.underlying T=some (.slice (P.elem T)):=by rw [oM ht]; exact ht
  rw [run_slice_h w T A m c ht' k j e6 e6]
  simp [oM ht,sizeOf,typeInfo,hi,Result.andThen,sliced]
  cases A <;> simp [Addr.add]
theorem J7 {v:Value} {lo hi mx:Option Operand} {lo' hi' mx':Option Value} (el:Elem P T e sz bytes) (hx:ev F x=some (.slice A m c)) (hlo:lo.map (ev F)=lo'.map some) (hhi:hi.map (ev F)=hi'.map some) (hmx:mx.map (ev F)=mx'.map some) (hr:(Instr.slice T (.slice A m c) lo' hi' mx').run P w= .ok v w):
    Yl P n F w (.slice T x lo hi mx) ty v:=fun ac ha o d _=>by
  have key:∀ (a:Option Operand) (b:Option Value),a.map (ev F)=b.map some→a.map ac.eval=b:=fun a b h=>by
    cases a <;> cases b <;> simp at h ⊢
    exact ha.eval h
  unfold execOp
  rw [d]
  simp only [ha.eval hx,key _ _ hlo,key _ _ hhi,key _ _ hmx,Sem.run_bind,Cm el.und,hr,Sem.run_pure,Result.andThen_ok]
theorem Yl.cut {lx hx':Operand} {i j:Nat} {k k':IntKind} (el:Elem P T e sz bytes) (hx:ev F x=some (.slice A m c)) (hl:ev F lx=some (.int k (i:Int))) (hh:ev F hx'=some (.int k' (j:Int))) (d:i≤j) (f:j≤c):Yl P n F w (.slice T x (some lx) (some hx') none) ty (.slice (jw A i sz c) (j - i) (c - i)):=
  J7 el hx (lo':=some (.int k (i:Int))) (hi':=some (.int k' (j:Int))) (mx':=none) (by simp [hl]) (by simp [hh]) rfl (E9 el d f)
theorem I5 {lx:Operand} {i:Nat} {k:IntKind} (el:Elem P T e sz bytes) (hx:ev F x=some (.slice A m c)) (hl:ev F lx=some (.int k (i:Int))) (d:i≤m):Yl P n F w (.slice T x (some lx) none none) ty (.slice (jw A i sz c) (m - i) (c - i)):=
  J7 el hx (lo':=some (.int k (i:Int))) (hi':=none) (mx':=none) (by simp [hl]) rfl rfl (Bi el d)
theorem Jk {hx':Operand} {j:Nat} {k:IntKind} (el:Elem P T e sz bytes) (hx:ev F x=some (.slice A m c)) (hh:ev F hx'=some (.int k (j:Int))) (d:j≤c):Yl P n F w (.slice T x none (some hx') none) ty (.slice A j c):=
  J7 el hx (lo':=none) (hi':=some (.int k (j:Int))) (mx':=none) rfl (by simp [hh]) rfl (CU el d)
theorem Iz {i:Nat} {k:IntKind} (el:Elem P T e sz bytes) (hx:ev F x=some (.slice A m c)) (hy:ev F y=some (.int k (i:Int))) (hA:A=some ⟨ab A,ao A,none⟩) (hi:i < m):Yl P n F w (.indexAddr T x y) ty (.pointer (some ⟨ab A,ao A+i *sz,none⟩)):=fun ac ha o d _=>by
  obtain⟨q,_,ht,hq,_,rfl,_⟩:=el
  unfold execOp
  rw [d]
  have ht':P.underlying T=some (.slice (P.elem T)):=by rw [oM ht]; exact ht
  have:=run_indexAt_slice (P:=P) w T ⟨ab A,ao A,none⟩ m c k i ht'
  simp only [ha.eval hx,ha.eval hy]
  rw [hA]
  simp only [Sem.run_bind,this]
  rw [if_pos e6]
  simp [oM ht,sizeOf,typeInfo,hq,Result.andThen,add0,ab,ao]
theorem Ji {yt:TypeId} {m' c':Nat} (hu:P.underlying T=some (.slice e)) (hx:ev F x=some (.slice A m c)) (hy:ev F y=some (.slice none m' c')):Yl P n F w (.binOp .eql T x y yt) ty (.bool A.isNone):=
  JB hx hy (fun _ _=>rfl) (Lib.run_eql_slice_nil w T e A m c m' c' hu)
end
theorem wB {α:Type} {enc:α→List Value} {sz:Nat} (hz:∀ x,(enc x).length=sz):∀ {ls:List α} {i:Nat} {x:α} {f:Nat} {v:Value},ls[i]? =some x→(enc x)[f]? =some v→(ls.flatMap enc)[i *sz+f]? =some v
  | [],_,_,_,_,h,_=>by simp at h
  | y::ls,0,x,f,v,h,hf=>by
    simp only [q0,Option.some.injEq] at h
    subst h
    have:=(p6.1 hf).1
    rw [q1,q2,Nat.zero_add,List.getElem?_append_left this]; exact hf
  | y::ls,i+1,x,f,v,h,hf=>by
    simp only [q3] at h
    have ih:=wB hz h hf
    rw [q1,List.getElem?_append_right (by rw [hz,p4]; omega),hz,show (i+1) *sz+f - sz=i *sz+f by rw [p4]; omega]
    exact ih
theorem jy {α:Type} {enc:α→List Value} {sz:Nat} (hz:∀ x,(enc x).length=sz):∀ (ls:List α),(ls.flatMap enc).length=ls.length *sz
  | []=>by simp
  | y::ls=>by rw [q1,List.length_append,hz,jy hz ls,List.length_cons,p4,Nat.one_mul,Nat.add_comm]
theorem iG {α:Type} {ls:List α} {i:Nat} (h:i < ls.length):∃ x,ls[i]? =some x:=⟨_,p7 h⟩
theorem iJ.elem {α:Type} {w:World} {g o:Nat} {enc:α→List Value} {sz:Nat} (hz:∀ x,(enc x).length=sz) {ls:List α} {i:Nat} {x:α} (h:iJ w g o (ls.flatMap enc)) (hx:ls[i]? =some x):iJ w g (o+i *sz) (enc x):=
  h.sub fun _ _ hj=>wB hz hx hj
theorem aY.elem {α:Type} {w:World} {A:Option Addr} {n:Nat} {enc:α→List Value} {sz:Nat} (hz:∀ x,(enc x).length=sz) {ls:List α} {i:Nat} {x:α} (h:aY w sz A n (ls.flatMap enc)) (hx:ls[i]? =some x) (hp:0 < sz):iJ w (ab A) (ao A+i *sz) (enc x):=by
  have hi:=(p6.1 hx).1
  have hl:=h.1
  rw [jy hz] at hl
  have hn:0 < n:=by
    rcases Nat.eq_zero_or_pos n with e | e
    · rw [e,q2] at hl
      have:ls.length *sz≠0:=Nat.mul_ne_zero e6 e6
      omega
    · exact e
  exact(h.cls hn).elem hz hx
theorem aY.len {α:Type} {w:World} {A:Option Addr} {n:Nat} {enc:α→List Value} {sz:Nat} (hz:∀ x,(enc x).length=sz) {ls:List α} (h:aY w sz A n (ls.flatMap enc)) (hp:0 < sz):ls.length=n:=by
  have hl:=h.1
  rw [jy hz] at hl
  exact Nat.eq_of_mul_eq_mul_right hp hl
theorem aY.addr {w:World} {A:Option Addr} {n sz:Nat} {xs:List Value} (h:aY w sz A n xs) {i:Nat} (hi:i < n):A=some ⟨ab A,ao A,none⟩:=h.isSome e6
def eB (b:UInt8):List Value:= [.int .u8 (b.toNat:Int)]
theorem zL {α:Type} (f:α→Value):∀ l:List α,l.flatMap (fun x=> [f x])=l.map f
  | []=>rfl
  | x::l=>by rw [q1,zL f l]; rfl
theorem CV (l:List UInt8):q4 eB l=l.map fun b=>Value.int .u8 (b.toNat:Int):=zL _ l
theorem dX {α:Type} {enc:α→List Value} (h:∀ x, ∀ u ∈ enc x,u.oneCell'=true) (ls:List α):∀ u ∈ q4 enc ls,u.oneCell'=true:=fun u hu=>by
  obtain⟨x,_,hx⟩:=List.mem_flatMap.1 hu
  exact h x u hx
theorem xJ:∀ b, ∀ u ∈ eB b,u.oneCell'=true:=fun b u hu=>by
  unfold eB at hu
  rw [List.mem_singleton] at hu
  subst hu; rfl
section
variable {P:Program} {n:Nat} {F:List (Nat × Value)} {w0 w:World} {D:Nat→Prop} {L:List HP} {ty:TypeId} {K:Value→World→Prop} {x:Operand}
theorem JE {src dst e:TypeId} {A:Option Addr} {m c:Nat} {l:List UInt8} (hs:P.underlying src=some (.slice e)) (he:P.underlying e=some (.int .u8)) (hd:P.underlying dst=some .string) (hr:aY w 1 A m (q4 eB l)) (hx:ev F x=some (.slice A m c)):
    Yl P n F w (.convert src dst x) ty (.string ⟨l.toArray⟩):=Ki hs he hd (by rw [← CV]; exact hr) hx
end
theorem jJ {α:Type} {enc:α→List Value} {sz:Nat} (hz:∀ x,(enc x).length=sz) {x y:α} {f:Nat} {vs:List Value} (hp:put (enc x) f vs=enc y) (hf:f+vs.length≤sz):∀ {ls:List α} {i:Nat},ls[i]? =some x→put (q4 enc ls) (i *sz+f) vs=q4 enc (ls.set i y)
  | [],_,h=>by simp at h
  | z::ls,0,h=>by
    simp only [q0,Option.some.injEq] at h
    subst h
    have hl:=hz z
    rw [List.set_cons_zero,q1,q1, ← hp,q2,Nat.zero_add]
    unfold put
    rw [List.take_append_of_le_length e6,List.drop_append_of_le_length e6]
    simp only [q5]
  | z::ls,i+1,h=>by
    simp only [q3] at h
    have ih:=jJ hz hp hf h
    have hl:=hz z
    rw [List.set_cons_succ,q1,q1, ← ih]
    have e:(i+1) *sz+f=(enc z).length+(i *sz+f):=by rw [hl,p4]; omega
    rw [e]
    unfold put
    rw [q6,show (enc z).length+(i *sz+f)+vs.length=(enc z).length+((i *sz+f)+vs.length) by omega,q7]
    simp only [q5]
section
variable {α:Type} {enc:α→List Value} {sz:Nat}
theorem oh (hz:∀ x,(enc x).length=sz):∀ (ls:List α) (k:Nat),(q4 enc ls).take (k *sz)=q4 enc (ls.take k)
  | [],k=>by simp
  | x::ls,0=>by simp
  | x::ls,k+1=>by
    rw [List.take_succ_cons,q1,q1, ← oh hz ls k]
    have e:(k+1) *sz=(enc x).length+k *sz:=by rw [hz,p4]; omega
    rw [e,q6]
theorem rF (hz:∀ x,(enc x).length=sz):∀ (ls:List α) (k:Nat),(q4 enc ls).drop (k *sz)=q4 enc (ls.drop k)
  | [],k=>by simp
  | x::ls,0=>by simp
  | x::ls,k+1=>by
    rw [List.drop_succ_cons,q1, ← rF hz ls k]
    have e:(k+1) *sz=(enc x).length+k *sz:=by rw [hz,p4]; omega
    rw [e,q7]
theorem aY.cutE {w:World} {A:Option Addr} {m c lo hi:Nat} {ls:List α} (hz:∀ x,(enc x).length=sz) (h:aY w sz A m (q4 enc ls)) (d:lo≤hi) (f:hi≤m) (hc:m≤c):aY w sz (jw A lo sz c) (hi - lo) (q4 enc (r3 (hi - lo) (r4 lo ls))):=by
  have:=h.cut d f hc
  rw [rF hz,oh hz] at this
  exact this
theorem Jw {w:World} {A:Option Addr} {m c lo:Nat} {ls:List α} (hz:∀ x,(enc x).length=sz) (h:aY w sz A m (q4 enc ls)) (d:lo≤m) (hc:m≤c) (hp:0 < sz):aY w sz (jw A lo sz c) (m - lo) (q4 enc (r4 lo ls)):=by
  have:=h.cutE hz d (Nat.le_refl m) hc
  rw [List.take_of_length_le (by rw [List.length_drop,h.len hz hp]; exact Nat.le_refl _)] at this
  exact this
theorem Kl {w:World} {A:Option Addr} {m hi:Nat} {ls:List α} (hz:∀ x,(enc x).length=sz) (h:aY w sz A m (q4 enc ls)) (d:hi≤m):aY w sz A hi (q4 enc (r3 hi ls)):=by
  have:=h.sub (k:=0) (m:=hi) (A':=A) e6 (fun hp=>by rw [q2,Nat.add_zero]; exact h.isSome e6)
  rw [q2,List.drop_zero,oh hz] at this
  exact this
theorem zM (hz:∀ x,(enc x).length=sz) (ls ss:List α) (lo k:Nat) (hk:k≤ss.length):put (q4 enc ls) (lo *sz) ((q4 enc ss).take (k *sz))=q4 enc (r3 lo ls++(r3 k ss++r4 (lo+k) ls)):=by
  have hl:((q4 enc ss).take (k *sz)).length=k *sz:=by
    rw [List.length_take,jy hz]
    exact Nat.min_eq_left (Nat.mul_le_mul_right _ hk)
  unfold put
  rw [hl, ← p4,oh hz,oh hz,rF hz,r5,r5,q5]
end
end Go.Proofs.YtbkagebjhbphaaaGreat
