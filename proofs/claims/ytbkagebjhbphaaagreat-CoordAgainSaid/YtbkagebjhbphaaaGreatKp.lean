/-
  Rows within rows that are written; slices that are cut again and again.
  Conditions: none beyond each law's own.
-/
import Derived.Test.YtbkagebjhbphaaaGreatKm
import Derived.Lib.MinMaxS
namespace Go.Proofs.YtbkagebjhbphaaaGreat
set_option linter.unusedVariables false
set_option linter.unusedSimpArgs false
open Go.RowKit
section
variable {P:Program} {ops:Array Oper} {Q:Exit→Act→World→Prop} {ks:List Nat} {Good:World→Prop} {n:Nat} {F:List (Nat × Value)} {w:World} {op:Op} {ty:TypeId} {v:Value} {fuel:Nat} {l:List Nat} {pos:String} {aft:Array Edge} {d:Nat}
def o9 (a b:List UInt8):List UInt8:=if a < b then b else a
theorem Jc {x y:Operand} {ts:Array TypeId} {a b:List UInt8} (ha:uW F [x,y]=some [.string ⟨a.toArray⟩, .string ⟨b.toArray⟩]):Yl P n F w (.call ⟨.builtin .max, #[x,y],ts⟩) ty (.string ⟨(o9 a b).toArray⟩):=fun ac hag o f _=>by
  unfold execOp
  rw [f]
  have he:=hag.evals ha
  have e:Lib.maxS ⟨a.toArray⟩ ⟨b.toArray⟩=⟨(o9 a b).toArray⟩:=by
    unfold Lib.maxS o9
    by_cases h:a < b <;> simp [h]
  simp [resolve,Act.eval,Deferred.ofValue,invoke,he,builtin,Lib.run_max_strs,Result.andThen,e]
def GY (P:Program) (ops:Array Oper) (Q:Exit→Act→World→Prop) (ks:List Nat) (Good:World→Prop) (fuel:Nat) (l:List Nat) (n:Nat) (F:List (Nat × Value)) (w:World) (i:Nat):Prop:=
  bL Q→Region.noSelect ops=true→GO P ops Q (kY ks Good) fuel (j6 ops.size l) n F w i
def FM (ops:Array Oper) (rs:List Nat) (l:List Nat):Bool:=decide (Region.ready .any ops (j6 ops.size l)=rs)
theorem Hm (i j:Nat) (hk:FM ops [i,j] l=true) (a:GY P ops Q ks Good fuel l n F w i) (b:GY P ops Q ks Good fuel l n F w j):GX P ops Q ks Good (fuel+1) l n F w:=fun hQ hs=>by
  refine GW.any (of_decide_eq_true hk) rfl fun q hq=> ?_
  rcases List.mem_cons.1 hq with rfl | hq
  · exact a hQ hs
  · rw [List.mem_singleton.1 hq]; exact b hQ hs
theorem GY.do (i:Nat) (hi:ops[i]? =some ⟨some d,op,ty,pos,aft,none⟩) (hk:Nat.blt d n=true)
    (h:Do P n F w op ty fun v w'=>(ks.any (fun k=>(j6 ops.size (i::l)).getD k false)=true∨Good w')∧GX P ops Q ks Good fuel (i::l) n ((d,v)::F) w'):GY P ops Q ks Good fuel l n F w i:=fun hQ hs=>
  GO.do hi hk rfl (h.mono fun v w' k=>⟨k.1,k.2 hQ hs⟩)
theorem JL (i:Nat) (hi:ops[i]? =some ⟨none,op,ty,pos,aft,none⟩) (hk:true=true)
    (h:Do P n F w op ty fun _ w'=>(ks.any (fun k=>(j6 ops.size (i::l)).getD k false)=true∨Good w')∧GX P ops Q ks Good fuel (i::l) n F w'):GY P ops Q ks Good fuel l n F w i:=fun hQ hs=>
  Js hi rfl (h.mono fun v w' k=>⟨k.1,k.2 hQ hs⟩)
end
end Go.Proofs.YtbkagebjhbphaaaGreat
namespace Go.Proofs.YtbkagebjhbphaaaGreat
set_option linter.unusedVariables false
set_option linter.unusedSimpArgs false
open Go.RowKit
theorem El {F:List (Nat × Value)} {x:Operand} {r:Int} {i:Nat} (h:ev F x=some (.int .i64 r)) (e:r=((i:Nat):Int)):ev F x=some (.int .i64 ((i:Nat):Int)):=by rw [h,e]
theorem zA (n k:Nat) (hk:k < 64) (m:Int) (hm:m=((2 ^ k - 1:Nat):Int)):IntKind.u64.wrap (((BitVec.ofInt 64 (n:Int) &&& BitVec.ofInt 64 m).toNat:Nat):Int)=((n % 2 ^ k:Nat):Int):=by
  subst hm
  have hp:2 ^ k≤2 ^ 63:=Nat.pow_le_pow_right f3 e6
  have b:0 < 2 ^ k:=Nat.two_pow_pos k
  have e:(BitVec.ofInt 64 (n:Int) &&& BitVec.ofInt 64 ((2 ^ k - 1:Nat):Int)).toNat=n % 2 ^ k:=by
    rw [BitVec.toNat_and,BitVec.ofInt_natCast,BitVec.ofInt_natCast,BitVec.toNat_ofNat,BitVec.toNat_ofNat,Nat.mod_eq_of_lt (a:=2 ^ k - 1) e6,Nat.and_two_pow_sub_one_eq_mod,
      Nat.mod_mod_of_dvd n (Nat.pow_dvd_pow 2 e6)]
  rw [e]
  have:=Nat.mod_lt n b
  rw [IntWalk.u64_in _ e6]
end Go.Proofs.YtbkagebjhbphaaaGreat
namespace Go.Proofs.YtbkagebjhbphaaaGreat
open List renaming Perm→u9,append_assoc→q7,drop→r6,flatMap→q6,flatMap_append→r7,flatMap_cons→q3,getElem?_eq_some_iff→m7,length→s2,length_drop→p4,perm_append_comm→v0,perm_middle→v1,set→u5,take→r5
open Nat renaming le_refl→m5
set_option linter.unusedVariables false
set_option linter.unusedSimpArgs false
open Go.RowKit
theorem rf {β:Type}:∀ x:Sv β,(GD x).length=1:=fun _=>rfl
section
variable {w0 w:World} {D:Nat→Prop} {L:List HP} {α β:Type}
theorem take_at {ds:List α} {i:Nat} {x:α} (hx:ds[i]? =some x):ds=r5 i ds++(x::r6 (i+1) ds):=by
  obtain⟨hi,rfl⟩:=m7.1 hx
  rw [List.getElem_cons_drop,List.take_append_drop]
theorem zB {ds:List α} {i:Nat} {x:α} (y:α) (hx:ds[i]? =some x):u5 ds i y=r5 i ds++(y::r6 (i+1) ds):=by
  obtain⟨hi,rfl⟩:=m7.1 hx
  exact List.set_eq_take_append_cons_drop.trans (by rw [if_pos hi])
theorem GV {f:α→List HP} {ds:List α} {i:Nat} {x:α} (hx:ds[i]? =some x) (H:Own w0 D w (sepL (q6 f ds)::L)):
    Own w0 D w (f x++(sepL (q6 f (r5 i ds)++q6 f (r6 (i+1) ds))::L)):=by
  rw [take_at hx,r7,q3] at H
  have a:=H.flat
  have e:((q6 f (r5 i ds)++(f x++q6 f (r6 (i+1) ds)))++L).Perm ((q6 f (r5 i ds)++q6 f (r6 (i+1) ds))++(f x++L)):=by
    rw [← q7, ← q7]
    refine u9.append_right L ?_
    rw [q7,q7]
    exact u9.append_left _ v0
  have b:=(a.perm e).pack
  exact b.perm (by
    have:(sepL (q6 f (r5 i ds)++q6 f (r6 (i+1) ds))::(f x++L)).Perm (f x++(sepL (q6 f (r5 i ds)++q6 f (r6 (i+1) ds))::L)):=v1.symm
    exact this)
theorem GL {f:α→List HP} {ds:List α} {i:Nat} {x y:α} (hx:ds[i]? =some x)
    (H:Own w0 D w (f y++(sepL (q6 f (r5 i ds)++q6 f (r6 (i+1) ds))::L))):Own w0 D w (sepL (q6 f (u5 ds i y))::L):=by
  have a:Own w0 D w (sepL (q6 f (r5 i ds)++q6 f (r6 (i+1) ds))::(f y++L)):=H.perm v1
  have b:=a.flat
  have e:((q6 f (r5 i ds)++q6 f (r6 (i+1) ds))++(f y++L)).Perm ((q6 f (r5 i ds)++(f y++q6 f (r6 (i+1) ds)))++L):=by
    rw [← q7, ← q7]
    refine u9.append_right L ?_
    rw [q7,q7]
    exact u9.append_left _ v0
  rw [zB y hx,r7,q3]
  exact(b.perm e).pack
theorem yJ {f:α→List Value} {ds:List α} {i:Nat} {x y:α} (hx:ds[i]? =some x) (h:f y=f x):q6 f (u5 ds i y)=q6 f ds:=by
  rw [zB y hx,r7,q3,h]
  conv=>rhs; rw [take_at hx,r7,q3]
theorem iB {f:α→β} {ds:List α} {ls:List β} {i:Nat} {y:α} {z:β} (h:List.map f ds=ls) (hy:f y=z):List.map f (u5 ds i y)=u5 ls i z:=by
  rw [List.map_set,h,hy]
end
section
variable {α:Type} {enc:α→List Value} {sz:Nat} {A:Option Addr} {c:Nat} {l:List α}
inductive jl (sz:Nat) (A:Option Addr) (c:Nat) (l:List α):Option Addr→Nat→List α→Prop
  | nil:jl sz A c l none 0 []
  | refl:s2 l≤c→jl sz A c l A c l
  | cut {A1:Option Addr} {c1 k:Nat} {l1:List α}:jl sz A c l A1 c1 l1→k≤s2 l1→jl sz A c l (jC A1 k sz c1) (c1 - k) (r6 k l1)
theorem jl.le {A':Option Addr} {c':Nat} {l':List α} (h:jl sz A c l A' c' l'):s2 l'≤c'∧(c'≤c∧s2 l'≤s2 l):=by
  induction h with
  | nil=>exact⟨m5 _,JQ _,JQ _⟩
  | refl h=>exact⟨h,m5 _,m5 _⟩
  | cut h hk ih=>rw [p4]; omega
theorem jl.rds {w:World} {A':Option Addr} {c':Nat} {l':List α} (hz:∀ x,(enc x).length=sz) (hp:0 < sz) (h:jl sz A c l A' c' l') (hr:bA w sz A (s2 l) (q6 enc l)):bA w sz A' (s2 l') (q6 enc l'):=by
  induction h with
  | nil=>exact bA.nil _ _ _
  | refl h=>exact hr
  | cut h hk ih=>
    have:=h.le
    rw [p4]
    exact Hl hz ih hk this.1 hp
theorem jl.trans {a b:Option Addr} {e f:Nat} {l1 g:List α} (h:jl sz A c l a e l1) (i:jl sz a e l1 b f g):jl sz A c l b f g:=by
  induction i with
  | nil=>exact .nil
  | refl _=>exact h
  | cut _ hk ih=>exact ih.cut hk
end
section
variable {P:Program} {n:Nat} {F G:List (Nat × Value)} {w:World} {Q:Exit→Act→World→Prop} {c:Code}
def Un (P:Program) (c:Code) (Q:Exit→Act→World→Prop):Nat→Act→World→Prop
  | 0,_,_=>False
  | k+1,a,w=>c.wp P (Exit.then (fun a' w'=>Un P c Q k a' w') Q) a w
theorem Un.loop:∀ (m:Nat) (a:Act) (w:World),Un P c Q m a w→∀ b k cs, ∃ e a' w',Q e a' w'∧Arrives P (lone (b.at a (.code c:: .inLoop c::k)) cs w) b k cs e a' w'
  | 0,_,_,h,_,_,_=>h.elim
  | m+1,a,w,h,b,k,cs=>by
    obtain⟨e,f,g,hq,harr⟩:=h b (.inLoop c::k) cs
    cases e with
    | normal=>
      obtain⟨j,o,p,i,harr2⟩:=Un.loop m f g hq b k cs
      exact⟨j,o,p,i, .of_steps (Steps.trans harr (.one step_inLoop)) harr2⟩
    | exit id=>exact⟨_,f,g,hq, .pass (x:= .inLoop c) rfl (fun _ _=> .inl i8) harr⟩
    | goto l=>exact⟨_,f,g,hq, .pass (x:= .inLoop c) rfl (fun _ _=> .inl i8) harr⟩
    | ret=>exact⟨_,f,g,hq, .pass (x:= .inLoop c) rfl (fun _ _=> .inl i8) harr⟩
    | panic ch=>exact⟨_,f,g,hq, .pass (x:= .inLoop c) rfl (fun _ _=> .inl i8) harr⟩
    | outgrown=>exact⟨_,f,g,hq, .pass (x:= .inLoop c) rfl (fun _ _=> .inl i8) harr⟩
theorem Hu (m:Nat) (h:Wp P c n F w (Exit.then (fun a w=>Un P c Q m a w) Q)):Wp P (.loop c) n F w Q:=fun a ha b k cs=>by
  obtain⟨e,a',w',hq,harr⟩:=Un.loop (m+1) a w (h a ha) b k cs
  exact⟨e,a',w',hq, .of_steps (.one step_loop) harr⟩
theorem GN {k:Nat} (G:List (Nat × Value)) (hs:wK G F) (h:Wp P c n G w (Exit.then (fun a w=>Un P c Q k a w) Q)):Fin (Exit.then (fun a w=>Un P c Q (k+1) a w) Q) .normal n F w:=fun a ha=>h a (ha.sub hs)
end
end Go.Proofs.YtbkagebjhbphaaaGreat
