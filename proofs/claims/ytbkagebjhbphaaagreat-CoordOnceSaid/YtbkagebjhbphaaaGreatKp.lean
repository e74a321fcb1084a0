/-
  Rows within rows that are written; slices that are cut again and again.
  Conditions: none beyond each law's own.
-/
import Derived.Test.YtbkagebjhbphaaaGreatKm
import Derived.Lib.MinMaxS
namespace Go.Proofs.YtbkagebjhbphaaaGreat
set_option linter.unusedVariables false
set_option linter.unusedSimpArgs false
open Go.RowKit
section
variable {P:Program} {ops:Array Oper} {Q:Exit→Act→World→Prop} {ks:List Nat} {Good:World→Prop} {n:Nat} {F:List (Nat × Value)} {w:World} {op:Op} {ty:TypeId} {v:Value} {fuel:Nat} {l:List Nat} {pos:String} {aft:Array Edge} {d:Nat}
def pG (a b:List UInt8):List UInt8:=if a < b then b else a
theorem Kw {x y:Operand} {ts:Array TypeId} {a b:List UInt8} (ha:vN F [x,y]=some [.string ⟨a.toArray⟩, .string ⟨b.toArray⟩]):Yl P n F w (.call ⟨.builtin .max, #[x,y],ts⟩) ty (.string ⟨(pG a b).toArray⟩):=fun ac hag o f _=>by
  unfold execOp
  rw [f]
  have he:=hag.evals ha
  have e:Lib.maxS ⟨a.toArray⟩ ⟨b.toArray⟩=⟨(pG a b).toArray⟩:=by
    unfold Lib.maxS pG
    by_cases h:a < b <;> simp [h]
  simp [resolve,Act.eval,Deferred.ofValue,invoke,he,builtin,Lib.run_max_strs,Result.andThen,e]
def GY (P:Program) (ops:Array Oper) (Q:Exit→Act→World→Prop) (ks:List Nat) (Good:World→Prop) (fuel:Nat) (l:List Nat) (n:Nat) (F:List (Nat × Value)) (w:World) (i:Nat):Prop:=
  bQ Q→Region.noSelect ops=true→GO P ops Q (lI ks Good) fuel (kI ops.size l) n F w i
def Hl (ops:Array Oper) (rs:List Nat) (l:List Nat):Bool:=decide (Region.ready .any ops (kI ops.size l)=rs)
theorem Jj (i j:Nat) (hk:Hl ops [i,j] l=true) (a:GY P ops Q ks Good fuel l n F w i) (b:GY P ops Q ks Good fuel l n F w j):GX P ops Q ks Good (fuel+1) l n F w:=fun hQ hs=>by
  refine GW.any (of_decide_eq_true hk) rfl fun q hq=> ?_
  rcases List.mem_cons.1 hq with rfl | hq
  · exact a hQ hs
  · rw [List.mem_singleton.1 hq]; exact b hQ hs
theorem GY.do (i:Nat) (hi:ops[i]? =some ⟨some d,op,ty,pos,aft,none⟩) (hk:Nat.blt d n=true)
    (h:Do P n F w op ty fun v w'=>(ks.any (fun k=>(kI ops.size (i::l)).getD k false)=true∨Good w')∧GX P ops Q ks Good fuel (i::l) n ((d,v)::F) w'):GY P ops Q ks Good fuel l n F w i:=fun hQ hs=>
  GO.do hi hk rfl (h.mono fun v w' k=>⟨k.1,k.2 hQ hs⟩)
theorem Lb (i:Nat) (hi:ops[i]? =some ⟨none,op,ty,pos,aft,none⟩) (hk:true=true)
    (h:Do P n F w op ty fun _ w'=>(ks.any (fun k=>(kI ops.size (i::l)).getD k false)=true∨Good w')∧GX P ops Q ks Good fuel (i::l) n F w'):GY P ops Q ks Good fuel l n F w i:=fun hQ hs=>
  KQ hi rfl (h.mono fun v w' k=>⟨k.1,k.2 hQ hs⟩)
end
end Go.Proofs.YtbkagebjhbphaaaGreat
namespace Go.Proofs.YtbkagebjhbphaaaGreat
set_option linter.unusedVariables false
set_option linter.unusedSimpArgs false
open Go.RowKit
theorem Fy {F:List (Nat × Value)} {x:Operand} {r:Int} {i:Nat} (h:ev F x=some (.int .i64 r)) (e:r=((i:Nat):Int)):ev F x=some (.int .i64 ((i:Nat):Int)):=by rw [h,e]
theorem Aj (n k:Nat) (hk:k < 64) (m:Int) (hm:m=((2 ^ k - 1:Nat):Int)):IntKind.u64.wrap (((BitVec.ofInt 64 (n:Int) &&& BitVec.ofInt 64 m).toNat:Nat):Int)=((n % 2 ^ k:Nat):Int):=by
  subst hm
  have hp:2 ^ k≤2 ^ 63:=Nat.pow_le_pow_right f4 e6
  have b:0 < 2 ^ k:=Nat.two_pow_pos k
  have e:(BitVec.ofInt 64 (n:Int) &&& BitVec.ofInt 64 ((2 ^ k - 1:Nat):Int)).toNat=n % 2 ^ k:=by
    rw [BitVec.toNat_and,BitVec.ofInt_natCast,BitVec.ofInt_natCast,BitVec.toNat_ofNat,BitVec.toNat_ofNat,Nat.mod_eq_of_lt (a:=2 ^ k - 1) e6,Nat.and_two_pow_sub_one_eq_mod,
      Nat.mod_mod_of_dvd n (Nat.pow_dvd_pow 2 e6)]
  rw [e]
  have:=Nat.mod_lt n b
  rw [IntWalk.u64_in _ e6]
end Go.Proofs.YtbkagebjhbphaaaGreat
namespace Go.Proofs.YtbkagebjhbphaaaGreat
open List renaming Perm→u3,append_assoc→q4,drop→r3,flatMap→q3,flatMap_append→r4,flatMap_cons→q0,getElem?_eq_some_iff→p7,length→r8,length_drop→o0,perm_append_comm→u4,perm_middle→u5,set→u2,take→q7
open Nat renaming le_refl→o3
set_option linter.unusedVariables false
set_option linter.unusedSimpArgs false
open Go.RowKit
theorem rU {β:Type}:∀ x:Sv β,(IX x).length=1:=fun _=>rfl
section
variable {w0 w:World} {D:Nat→Prop} {L:List HP} {α β:Type}
theorem take_at {ds:List α} {i:Nat} {x:α} (hx:ds[i]? =some x):ds=q7 i ds++(x::r3 (i+1) ds):=by
  obtain⟨hi,rfl⟩:=p7.1 hx
  rw [List.getElem_cons_drop,List.take_append_drop]
theorem Al {ds:List α} {i:Nat} {x:α} (y:α) (hx:ds[i]? =some x):u2 ds i y=q7 i ds++(y::r3 (i+1) ds):=by
  obtain⟨hi,rfl⟩:=p7.1 hx
  exact List.set_eq_take_append_cons_drop.trans (by rw [if_pos hi])
theorem Jd {f:α→List HP} {ds:List α} {i:Nat} {x:α} (hx:ds[i]? =some x) (H:Own w0 D w (sepL (q3 f ds)::L)):
    Own w0 D w (f x++(sepL (q3 f (q7 i ds)++q3 f (r3 (i+1) ds))::L)):=by
  rw [take_at hx,r4,q0] at H
  have a:=H.flat
  have e:((q3 f (q7 i ds)++(f x++q3 f (r3 (i+1) ds)))++L).Perm ((q3 f (q7 i ds)++q3 f (r3 (i+1) ds))++(f x++L)):=by
    rw [← q4, ← q4]
    refine u3.append_right L ?_
    rw [q4,q4]
    exact u3.append_left _ u4
  have b:=(a.perm e).pack
  exact b.perm (by
    have:(sepL (q3 f (q7 i ds)++q3 f (r3 (i+1) ds))::(f x++L)).Perm (f x++(sepL (q3 f (q7 i ds)++q3 f (r3 (i+1) ds))::L)):=u5.symm
    exact this)
theorem I7 {f:α→List HP} {ds:List α} {i:Nat} {x y:α} (hx:ds[i]? =some x)
    (H:Own w0 D w (f y++(sepL (q3 f (q7 i ds)++q3 f (r3 (i+1) ds))::L))):Own w0 D w (sepL (q3 f (u2 ds i y))::L):=by
  have a:Own w0 D w (sepL (q3 f (q7 i ds)++q3 f (r3 (i+1) ds))::(f y++L)):=H.perm u5
  have b:=a.flat
  have e:((q3 f (q7 i ds)++q3 f (r3 (i+1) ds))++(f y++L)).Perm ((q3 f (q7 i ds)++(f y++q3 f (r3 (i+1) ds)))++L):=by
    rw [← q4, ← q4]
    refine u3.append_right L ?_
    rw [q4,q4]
    exact u3.append_left _ u4
  rw [Al y hx,r4,q0]
  exact(b.perm e).pack
theorem zq {f:α→List Value} {ds:List α} {i:Nat} {x y:α} (hx:ds[i]? =some x) (h:f y=f x):q3 f (u2 ds i y)=q3 f ds:=by
  rw [Al y hx,r4,q0,h]
  conv=>rhs; rw [take_at hx,r4,q0]
theorem iW {f:α→β} {ds:List α} {ls:List β} {i:Nat} {y:α} {z:β} (h:List.map f ds=ls) (hy:f y=z):List.map f (u2 ds i y)=u2 ls i z:=by
  rw [List.map_set,h,hy]
end
section
variable {α:Type} {enc:α→List Value} {sz:Nat} {A:Option Addr} {c:Nat} {l:List α}
inductive jL (sz:Nat) (A:Option Addr) (c:Nat) (l:List α):Option Addr→Nat→List α→Prop
  | nil:jL sz A c l none 0 []
  | refl:r8 l≤c→jL sz A c l A c l
  | cut {A1:Option Addr} {c1 k:Nat} {l1:List α}:jL sz A c l A1 c1 l1→k≤r8 l1→jL sz A c l (jS A1 k sz c1) (c1 - k) (r3 k l1)
theorem jL.le {A':Option Addr} {c':Nat} {l':List α} (h:jL sz A c l A' c' l'):r8 l'≤c'∧(c'≤c∧r8 l'≤r8 l):=by
  induction h with
  | nil=>exact⟨o3 _,Lg _,Lg _⟩
  | refl h=>exact⟨h,o3 _,o3 _⟩
  | cut h hk ih=>rw [o0]; omega
theorem jL.rds {w:World} {A':Option Addr} {c':Nat} {l':List α} (hz:∀ x,(enc x).length=sz) (hp:0 < sz) (h:jL sz A c l A' c' l') (hr:bE w sz A (r8 l) (q3 enc l)):bE w sz A' (r8 l') (q3 enc l'):=by
  induction h with
  | nil=>exact bE.nil _ _ _
  | refl h=>exact hr
  | cut h hk ih=>
    have:=h.le
    rw [o0]
    exact Jq hz ih hk this.1 hp
theorem jL.trans {a b:Option Addr} {c1 c2:Nat} {l1 e:List α} (f:jL sz A c l a c1 l1) (g:jL sz a c1 l1 b c2 e):jL sz A c l b c2 e:=by
  induction g with
  | nil=>exact .nil
  | refl _=>exact f
  | cut _ hk ih=>exact ih.cut hk
end
section
variable {P:Program} {n:Nat} {F G:List (Nat × Value)} {w:World} {Q:Exit→Act→World→Prop} {c:Code}
def Un (P:Program) (c:Code) (Q:Exit→Act→World→Prop):Nat→Act→World→Prop
  | 0,_,_=>False
  | k+1,a,w=>c.wp P (Exit.then (fun a' w'=>Un P c Q k a' w') Q) a w
theorem Un.loop:∀ (m:Nat) (a:Act) (w:World),Un P c Q m a w→∀ b k cs, ∃ e a' w',Q e a' w'∧Arrives P (lone (b.at a (.code c:: .inLoop c::k)) cs w) b k cs e a' w'
  | 0,_,_,h,_,_,_=>h.elim
  | m+1,a,w,h,b,k,cs=>by
    obtain⟨e,f,g,hq,harr⟩:=h b (.inLoop c::k) cs
    cases e with
    | normal=>
      obtain⟨j,o,p,i,harr2⟩:=Un.loop m f g hq b k cs
      exact⟨j,o,p,i, .of_steps (Steps.trans harr (.one step_inLoop)) harr2⟩
    | exit id=>exact⟨_,f,g,hq, .pass (x:= .inLoop c) rfl (fun _ _=> .inl i8) harr⟩
    | goto l=>exact⟨_,f,g,hq, .pass (x:= .inLoop c) rfl (fun _ _=> .inl i8) harr⟩
    | ret=>exact⟨_,f,g,hq, .pass (x:= .inLoop c) rfl (fun _ _=> .inl i8) harr⟩
    | panic ch=>exact⟨_,f,g,hq, .pass (x:= .inLoop c) rfl (fun _ _=> .inl i8) harr⟩
    | outgrown=>exact⟨_,f,g,hq, .pass (x:= .inLoop c) rfl (fun _ _=> .inl i8) harr⟩
theorem Jw (m:Nat) (h:Wp P c n F w (Exit.then (fun a w=>Un P c Q m a w) Q)):Wp P (.loop c) n F w Q:=fun a ha b k cs=>by
  obtain⟨e,a',w',hq,harr⟩:=Un.loop (m+1) a w (h a ha) b k cs
  exact⟨e,a',w',hq, .of_steps (.one step_loop) harr⟩
theorem I8 {k:Nat} (G:List (Nat × Value)) (hs:xq G F) (h:Wp P c n G w (Exit.then (fun a w=>Un P c Q k a w) Q)):Fin (Exit.then (fun a w=>Un P c Q (k+1) a w) Q) .normal n F w:=fun a ha=>h a (ha.sub hs)
end
end Go.Proofs.YtbkagebjhbphaaaGreat
