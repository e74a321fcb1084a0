/-
  Walks by steps: what is known of a frame is a short list of slots and values; each form of code and each operation has one step; a region that draws its order is played as a game.
  Conditions: none beyond each step's own.
-/
import Derived.Test.YtbkagebjhbphaaaGreatRows
import Derived.WalkKit
import Derived.WalkLawsBesides
import Derived.WalkSpells
import Derived.Scope
import Derived.OrdersHeld
namespace Go.Proofs.YtbkagebjhbphaaaGreat
abbrev Lj:=@Nat.le_of_ble_eq_true
abbrev Lm:=@IntWalk.i64_in
abbrev Lp:=@Nat.zero_le
abbrev Lr:=@not_not_intro
abbrev Ls:=@Bool.eq_false_or_eq_true
end Go.Proofs.YtbkagebjhbphaaaGreat
namespace Go.Proofs.YtbkagebjhbphaaaGreat
open Nat renaming beq→l4,beq_refl→m1,eq_of_beq_eq_true→m2,le_of_ble_eq_true→m0
set_option linter.unusedVariables false
set_option linter.unusedSimpArgs false
open Go.RowKit
def look:List (Nat × Value)→Nat→Option Value
  | [],_=>none
  | (k,v)::r,t=>bif l4 k t then some v else look r t
def ev (F:List (Nat × Value)):Operand→Option Value
  | .tmp t=>look F t
  | .const v=>some v
  | .global g=>some (.pointer (some ⟨g,0,none⟩))
  | .func f=>some (.func (.func f) #[] #[])
def vE (F:List (Nat × Value)):List Operand→Option (List Value)
  | []=>some []
  | x::r=>match ev F x,vE F r with
    | some v,some vs=>some (v::vs)
    | _,_=>none
structure Ag0 (n:Nat) (F:List (Nat × Value)) (a:Act):Prop where
  size:a.tmps.size=n
  at_:∀ t v,look F t=some v→a.tmps[t]? =some v
structure Ag (n:Nat) (F:List (Nat × Value)) (a:Act):Prop extends Ag0 n F a where
  defers:a.defers= []
section
variable {n:Nat} {F G:List (Nat × Value)} {a:Act}
theorem Ag0.getD (h:Ag0 n F a) {t:Nat} {v d:Value} (hv:look F t=some v):a.tmps.getD t d=v:=by
  simp [h.at_ t v hv]
theorem Ag0.eval (h:Ag0 n F a) {x:Operand} {v:Value} (hx:ev F x=some v):a.eval x=v:=by
  cases x with
  | tmp t=>exact h.getD hx
  | const c=>exact Option.some.inj hx
  | global g=>exact Option.some.inj hx
  | func f=>exact Option.some.inj hx
theorem Ag0.evals (h:Ag0 n F a):∀ {xs:List Operand} {vs:List Value},vE F xs=some vs→xs.map a.eval=vs
  | [],vs,hx=>by simp [vE] at hx; subst hx; rfl
  | x::r,vs,hx=>by
    unfold vE at hx
    split at hx
    · rename_i v vs' b c
      simp only [Option.some.injEq] at hx
      subst hx
      rw [List.map_cons,h.eval b,h.evals c]
    · cases hx
theorem Ag0.put (h:Ag0 n F a) {d:Nat} {v:Value} (hd:Nat.blt d n=true):Ag0 n ((d,v)::F) (a.put (some d) v):=by
  have hd':d < n:=m0 hd
  refine⟨by simp [Act.put,h.size],fun t u hu=> ?_⟩
  unfold look at hu
  by_cases e:d=t
  · subst e
    simp only [m1,cond_true,Option.some.injEq] at hu
    subst hu
    simp [Act.put,h.size,hd']
  · have:l4 d t=false:=by
      rw [Bool.eq_false_iff]; intro hh; exact e (m2 hh)
    rw [this,cond_false] at hu
    simp only [Act.put,Array.getElem?_setIfInBounds_ne e]
    exact h.at_ t u hu
theorem Ag.put (h:Ag n F a) {d:Nat} {v:Value} (hd:Nat.blt d n=true):Ag n ((d,v)::F) (a.put (some d) v):=⟨h.toAg0.put hd,h.defers⟩
theorem Ag.put0 (h:Ag n F a) (v:Value):Ag n F (a.put none v):=h
def wR:List (Nat × Value)→List (Nat × Value)→Prop
  | [],_=>True
  | (t,v)::r,F=>look F t=some v∧wR r F
theorem wR.look:∀ {G:List (Nat × Value)},wR G F→∀ t v,look G t=some v→look F t=some v
  | [],_,t,v,h=>by simp [Go.Proofs.YtbkagebjhbphaaaGreat.look] at h
  | (k,u)::r,hs,t,v,h=>by
    unfold Go.Proofs.YtbkagebjhbphaaaGreat.look at h
    by_cases e:k=t
    · subst e
      simp only [m1,cond_true,Option.some.injEq] at h
      subst h
      exact hs.1
    · have:l4 k t=false:=by
        rw [Bool.eq_false_iff]; intro hh; exact e (m2 hh)
      rw [this,cond_false] at h
      exact wR.look hs.2 t v h
theorem Ag0.sub (h:Ag0 n F a) (hs:wR G F):Ag0 n G a:=⟨h.size,fun t v hv=>h.at_ t v (hs.look t v hv)⟩
theorem Ag.sub (h:Ag n F a) (hs:wR G F):Ag n G a:=⟨h.toAg0.sub hs,h.defers⟩
end
def Wp (P:Program) (c:Code) (n:Nat) (F:List (Nat × Value)) (w:World) (Q:Exit→Act→World→Prop):Prop:=∀ a,Ag n F a→c.wp P Q a w
def Fin (Q:Exit→Act→World→Prop) (e:Exit) (n:Nat) (F:List (Nat × Value)) (w:World):Prop:=∀ a,Ag n F a→Q e a w
def WL (P:Program) (ops:Array Oper) (Q:Exit→Act→World→Prop) (rest:List Oper) (n:Nat) (F:List (Nat × Value)) (w:World):Prop:=∀ a,Ag n F a→wpList P ops Q rest a w
section
variable {P:Program} {n:Nat} {F:List (Nat × Value)} {w:World} {Q:Exit→Act→World→Prop} {K:Act→World→Prop}
theorem Ik {x y:Code} (h:Wp P x n F w (Exit.then (fun a w=>y.wp P Q a w) Q)):Wp P (.seq x y) n F w Q:=fun a ha=>wp_seq (h a ha)
theorem IU (h:Fin Q .normal n F w):Wp P .skip n F w Q:=fun a ha=>wp_skip (h a ha)
theorem Wp.exit {i:Nat} (h:Fin Q (.exit i) n F w):Wp P (.exit i) n F w Q:=fun a ha=>wp_exit (h a ha)
theorem Wp.ret (h:Fin Q .ret n F w):Wp P .ret n F w Q:=fun a ha=>wp_ret (h a ha)
theorem Wp.block {i:Nat} {c:Code} (h:Wp P c n F w (Exit.inBlock i Q)):Wp P (.block i c) n F w Q:=fun a ha=>wp_block (h a ha)
theorem Kk {c:Operand} {x y:Code} {b:Bool} (hc:ev F c=some (.bool b)) (ht:b=true→Wp P x n F w Q) (hf:b=false→Wp P y n F w Q):Wp P (.cond c x y) n F w Q:=
  fun a ha=>wp_cond_split (ha.eval hc) (fun h=>ht h a ha) (fun h=>hf h a ha)
theorem J8 {c:Operand} {x y:Code} {b:Bool} (hc:ev F c=some (.bool b)) (hb:b=true) (ht:Wp P x n F w Q):Wp P (.cond c x y) n F w Q:=
  Kk hc (fun _=>ht) (fun h=>by rw [hb] at h; cases h)
theorem J9 {c:Operand} {x y:Code} {b:Bool} (hc:ev F c=some (.bool b)) (hb:b=false) (hf:Wp P y n F w Q):Wp P (.cond c x y) n F w Q:=
  Kk hc (fun h=>by rw [hb] at h; cases h) (fun _=>hf)
theorem Il {i:Nat} {l:List Oper} (h:WL P l.toArray Q l n F w):Wp P (.region i l.toArray false) n F w Q:=fun a ha=>wp_region_lit (h a ha)
theorem Iq {y:Code} (h:Wp P y n F w Q):Fin (Exit.then (fun a w=>y.wp P Q a w) Q) .normal n F w:=h
theorem IC {i:Nat} (h:Fin Q (.exit i) n F w):Fin (Exit.then K Q) (.exit i) n F w:=h
theorem IK {i:Nat} (h:Fin Q .normal n F w):Fin (Exit.inBlock i Q) (.exit i) n F w:=fun a ha=>by
  simp only [Exit.inBlock,if_true]; exact h a ha
theorem WL.nil {ops:Array Oper} (h:Fin Q .normal n F w):WL P ops Q [] n F w:=fun a ha=>wpList_nil (h a ha)
theorem Wp.loop {c:Code} {ι:Type} (Fh:ι→List (Nat × Value)) (S:ι→World→Prop) (μ:ι→Nat) (g:ι) (j:wR (Fh g) F) (hS:S g w)
    (round:∀ i w,S i w→Wp P c n (Fh i) w (Exit.then (fun a' w'=> ∃ i',Ag n (Fh i') a'∧S i' w'∧μ i' < μ i) Q)):Wp P (.loop c) n F w Q:=by
  intro a ha b k cs
  have key:∀ m i a w,μ i=m→Ag n (Fh i) a→S i w→∃ e a' w',Q e a' w'∧Arrives P (lone (b.at a (.code c:: .inLoop c::k)) cs w) b k cs e a' w':=by
    intro m
    induction m using Nat.strongRecOn with
    | _ m ih=>
      intro i a w hm ha hs
      obtain⟨e,d,f,hq,harr⟩:=round i w hs a ha b (.inLoop c::k) cs
      cases e with
      | normal=>
        obtain⟨i',ha',hs',hlt⟩:=hq
        obtain⟨o,p,q,h,harr2⟩:=ih (μ i') (hm ▸ hlt) i' d f rfl ha' hs'
        exact⟨o,p,q,h, .of_steps (Steps.trans harr (.one step_inLoop)) harr2⟩
      | exit id=>exact⟨_,d,f,hq, .pass (x:= .inLoop c) rfl (fun _ _=> .inl (by simp)) harr⟩
      | goto l=>exact⟨_,d,f,hq, .pass (x:= .inLoop c) rfl (fun _ _=> .inl (by simp)) harr⟩
      | ret=>exact⟨_,d,f,hq, .pass (x:= .inLoop c) rfl (fun _ _=> .inl (by simp)) harr⟩
      | panic ch=>exact⟨_,d,f,hq, .pass (x:= .inLoop c) rfl (fun _ _=> .inl (by simp)) harr⟩
      | outgrown=>exact⟨_,d,f,hq, .pass (x:= .inLoop c) rfl (fun _ _=> .inl (by simp)) harr⟩
  obtain⟨e,a',w',hq,harr⟩:=key _ g a w rfl (ha.sub j) hS
  exact⟨e,a',w',hq, .of_steps (.one step_loop) harr⟩
theorem II {ι:Type} {Fh:ι→List (Nat × Value)} {S:ι→World→Prop} {μ:ι→Nat} {m:Nat} (i':ι) (hs:wR (Fh i') F) (hS:S i' w) (hm:μ i' < m):
    Fin (Exit.then (fun a' w'=> ∃ i',Ag n (Fh i') a'∧S i' w'∧μ i' < m) Q) .normal n F w:=fun a ha=>⟨i',ha.sub hs,hS,hm⟩
theorem Jg {x y:Code} {ι:Type} (Fj:ι→List (Nat × Value)) (S:ι→World→Prop) (b:Wp P x n F w (Exit.then (fun a' w'=> ∃ i,Ag n (Fj i) a'∧S i w') Q))
    (c:∀ i w',S i w'→Wp P y n (Fj i) w' Q):Wp P x n F w (Exit.then (fun a w=>y.wp P Q a w) Q):=fun a ha=>
  wp_mono (b a ha) fun e a' w' h=>by
    cases e with
    | normal=>obtain⟨i,ha',hs⟩:=h; exact c i w' hs a' ha'
    | _=>exact h
theorem I8 {ι:Type} {Fj:ι→List (Nat × Value)} {S:ι→World→Prop} (i:ι) (hs:wR (Fj i) F) (hS:S i w):
    Fin (Exit.then (fun a' w'=> ∃ i,Ag n (Fj i) a'∧S i w') Q) .normal n F w:=fun a ha=>⟨i,ha.sub hs,hS⟩
def Bt:Nat→List Value→List (Nat × Value)
  | _, []=> []
  | k,v::r=>(k,v)::Bt (k+1) r
theorem zK:∀ (vs:List Value) (k t:Nat) (v:Value),look (Bt k vs) t=some v→k≤t∧vs[t - k]? =some v
  | [],_,_,_,h=>by cases h
  | u::r,k,t,v,h=>by
    unfold Bt look at h
    by_cases e:k=t
    · subst e
      simp only [m1,cond_true,Option.some.injEq] at h
      subst h
      simp
    · have:l4 k t=false:=by
        rw [Bool.eq_false_iff]; intro hh; exact e (m2 hh)
      rw [this,cond_false] at h
      obtain⟨c,b⟩:=zK r (k+1) t v h
      refine⟨by omega, ?_⟩
      rw [show t - k=(t - (k+1))+1 by omega,List.getElem?_cons_succ]
      exact b
theorem Kv {f:FuncId} {fn:Func} {c:Code} {args:List Value} {R:Ending→World→Prop} (hf:P.funcs[f]? =some fn) (hb:fn.body=some c) (hn:fn.ntmps=n) (hl:Nat.ble args.length n=true)
    (h:Wp P c n (Bt 0 args) w (bodyPost P fn R)):Calls P f args.toArray w R:=by
  refine calls_of_wp hf hb (h _ ⟨⟨?_,fun t v hv=> ?_⟩,rfl⟩)
  · have:args.length≤n:=m0 hl
    simp only [Array.size_append,List.size_toArray,Array.size_replicate,hn]; omega
  · obtain⟨_,b⟩:=zK _ _ _ _ hv
    rw [Nat.sub_zero] at b
    have hlt:=(List.getElem?_eq_some_iff.1 b).1
    simp only
    rw [Array.getElem?_append_left (by simpa using hlt)]
    simpa using b
def dA (R:Value→World→Prop):Ending→World→Prop:=fun e w=> ∃ v,e= .returned v∧R v w
theorem dA.mono {R R':Value→World→Prop} {f:FuncId} {args:Array Value} (h:Calls P f args w (dA R)) (k:∀ v w',R v w'→R' v w'):Calls P f args w (dA R'):=
  h.mono fun _ _ ⟨v,e,r⟩=>⟨v,e,k _ _ r⟩
theorem Fin.res {fn:Func} {R:Value→World→Prop} {v:Value} (hr:∀ a,Ag0 n F a→(results fn a.tmps).run P w= .ok v w) (h:R v w):Fin (bodyPost P fn (dA R)) .ret n F w:=
  fun a ha=>⟨ha.defers,v,hr a ha.toAg0,v,rfl,h⟩
theorem IL {fn:Func} {R:Value→World→Prop} {v:Value} (hr:∀ a,Ag0 n F a→(results fn a.tmps).run P w= .ok v w) (h:R v w):Fin (bodyPost P fn (dA R)) .normal n F w:=
  fun a ha=>⟨ha.defers,v,hr a ha.toAg0,v,rfl,h⟩
def bv (Q:Exit→Act→World→Prop):Prop:=∀ c a w, ¬ Q (.panic c) a w
theorem IQ {fn:Func} {R:Value→World→Prop}:bv (bodyPost P fn (dA R)):=fun _ _ _ ⟨_,_,h,_⟩=>by cases h
theorem IE (h:bv Q):bv (Exit.then K Q):=h
theorem bv.block {i:Nat} (h:bv Q):bv (Exit.inBlock i Q):=h
theorem Ht {fn:Func} {t:Tmp} {v:Value} (h:fn.results= #[.tmp t]) (hv:look F t=some v):∀ a,Ag0 n F a→(results fn a.tmps).run P w= .ok v w:=
  fun a ha=>by rw [results_tmp h,ha.getD hv]
theorem lH {fn:Func} {t u:Tmp} {v v':Value} (h:fn.results= #[.tmp t, .tmp u]) (hv:look F t=some v) (hv':look F u=some v'):∀ a,Ag0 n F a→(results fn a.tmps).run P w= .ok (.tuple #[v,v']) w:=
  fun a ha=>by rw [results_tmp2 h,ha.getD hv,ha.getD hv']
theorem res0 {fn:Func} (h:fn.results= #[]):∀ a,Ag0 n F a→(results fn a.tmps).run P w= .ok (.tuple #[]) w:=fun a _=>results_none h a.tmps P w
def bJ (P:Program) (w:World) (t:TypeId) (p:Addr) (v:Value):Prop:=(loadVar t p).run P w= .ok v w
inductive cK (P:Program) (F:List (Nat × Value)) (w:World):List ResultVar→List Value→Prop
  | nil:cK P F w [] []
  | tmp {t:Tmp} {v:Value} {rs:List ResultVar} {vs:List Value} (h:look F t=some v) (r:cK P F w rs vs):cK P F w (.tmp t::rs) (v::vs)
  | cell {t:Tmp} {T:TypeId} {p:Addr} {v:Value} {rs:List ResultVar} {vs:List Value} (h:look F t=some (.pointer (some p))) (hl:bJ P w T p v) (r:cK P F w rs vs):cK P F w (.cell t T::rs) (v::vs)
def yz (tmps:Array Value):ResultVar→Sem Value
  | .tmp t=>pure (tmps.getD t undef)
  | .cell a t=>do loadVar t (← asAddr (tmps.getD a undef))
theorem cK.run {a:Act} (ha:Ag0 n F a):∀ {rs:List ResultVar} {vs:List Value},cK P F w rs vs→Sem.run P (rs.mapM (yz a.tmps)) w=Result.ok vs w
  | _,_, .nil=>rfl
  | _,_, .tmp h r=>by
    rw [List.mapM_cons]
    simp only [yz,Sem.run_bind,Sem.run_pure,Result.andThen_ok,cK.run ha r,ha.getD h]
  | _,_, .cell h hl r=>by
    rw [List.mapM_cons]
    simp only [yz,ha.getD h,asAddr,Sem.run_bind,Sem.run_pure,Result.andThen_ok]
    rw [hl]
    simp only [Result.andThen_ok,cK.run ha r]
theorem jb {fn:Func} {rs:List ResultVar} {vs:List Value} (h:fn.results=rs.toArray) (hv:cK P F w rs vs) (hn:2≤vs.length):∀ a,Ag0 n F a→(results fn a.tmps).run P w= .ok (.tuple vs.toArray) w:=fun a ha=>by
  have e:results fn a.tmps=(do
      let xs ← fn.results.mapM (yz a.tmps)
      pure (if h:xs.size=1 then xs[0] else .tuple xs)):=rfl
  rw [e,h,List.mapM_toArray]
  simp only [Functor.map,Sem.run_bind,Sem.run_pure,Result.andThen_ok,hv.run ha]
  have hb:Sem.run P ((rs.mapM (yz a.tmps)).bind (Sem.pure ∘ List.toArray)) w= .ok vs.toArray w:=by
    show Sem.run P (rs.mapM (yz a.tmps) >>=fun x=>(pure x.toArray:Sem (Array Value))) w=_
    rw [Sem.run_bind,hv.run ha]; rfl
  rw [hb]
  simp only [Result.andThen_ok]
  rw [dif_neg (by simp; omega)]
theorem oo {fn:Func} {t:Tmp} {T:TypeId} {p:Addr} {v:Value} (h:fn.results= #[.cell t T]) (hp:look F t=some (.pointer (some p))) (hl:bJ P w T p v):∀ a,Ag0 n F a→(results fn a.tmps).run P w= .ok v w:=fun a ha=>by
  simp [results,h,ha.at_ _ _ hp,asAddr]
  unfold bJ at hl
  simp [hl,Result.andThen]
end
theorem b1 {α:Type _}{a0:α}{l:List α}:a0∈a0::l:=.head _
theorem b2 {α:Type _}{a0 a1:α}{l:List α}:a1∈a0::a1::l:=.tail _ (.head _)
theorem b3 {α:Type _}{a0 a1 a2:α}{l:List α}:a2∈a0::a1::a2::l:=.tail _ (.tail _ (.head _))
theorem b4 {α:Type _}{a0 a1 a2 a3:α}{l:List α}:a3∈a0::a1::a2::a3::l:=.tail _ (.tail _ (.tail _ (.head _)))
theorem b5 {α:Type _}{a0 a1 a2 a3 a4:α}{l:List α}:a4∈a0::a1::a2::a3::a4::l:=.tail _ (.tail _ (.tail _ (.tail _ (.head _))))
theorem b6 {α:Type _}{a0 a1 a2 a3 a4 a5:α}{l:List α}:a5∈a0::a1::a2::a3::a4::a5::l:=.tail _ (.tail _ (.tail _ (.tail _ (.tail _ (.head _)))))
theorem b7 {α:Type _}{a0 a1 a2 a3 a4 a5 a6:α}{l:List α}:a6∈a0::a1::a2::a3::a4::a5::a6::l:=.tail _ (.tail _ (.tail _ (.tail _ (.tail _ (.tail _ (.head _))))))
theorem b8 {α:Type _}{a0 a1 a2 a3 a4 a5 a6 a7:α}{l:List α}:a7∈a0::a1::a2::a3::a4::a5::a6::a7::l:=.tail _ (.tail _ (.tail _ (.tail _ (.tail _ (.tail _ (.tail _ (.head _)))))))
theorem e1 {α:Type _}{a0 a1 a2 a3 a4 a5 a6 a7 a8:α}{l:List α}:a8∈a0::a1::a2::a3::a4::a5::a6::a7::a8::l:=.tail _ (.tail _ (.tail _ (.tail _ (.tail _ (.tail _ (.tail _ (.tail _ (.head _))))))))
theorem e2 {α:Type _}{a0 a1 a2 a3 a4 a5 a6 a7 a8 a9:α}{l:List α}:a9∈a0::a1::a2::a3::a4::a5::a6::a7::a8::a9::l:=.tail _ (.tail _ (.tail _ (.tail _ (.tail _ (.tail _ (.tail _ (.tail _ (.tail _ (.head _)))))))))
theorem e3 {α:Type _}{a0 a1 a2 a3 a4 a5 a6 a7 a8 a9 a10:α}{l:List α}:a10∈a0::a1::a2::a3::a4::a5::a6::a7::a8::a9::a10::l:=.tail _ (.tail _ (.tail _ (.tail _ (.tail _ (.tail _ (.tail _ (.tail _ (.tail _ (.tail _ (.head _))))))))))
theorem e4 {α:Type _}{a0 a1 a2 a3 a4 a5 a6 a7 a8 a9 a10 a11:α}{l:List α}:a11∈a0::a1::a2::a3::a4::a5::a6::a7::a8::a9::a10::a11::l:=.tail _ (.tail _ (.tail _ (.tail _ (.tail _ (.tail _ (.tail _ (.tail _ (.tail _ (.tail _ (.tail _ (.head _)))))))))))
theorem e5 {α:Type _}{a0 a1 a2 a3 a4 a5 a6 a7 a8 a9 a10 a11 a12:α}{l:List α}:a12∈a0::a1::a2::a3::a4::a5::a6::a7::a8::a9::a10::a11::a12::l:=.tail _ (.tail _ (.tail _ (.tail _ (.tail _ (.tail _ (.tail _ (.tail _ (.tail _ (.tail _ (.tail _ (.tail _ (.head _))))))))))))
theorem e6 {p:Prop}(h:p:=by omega):p:=h
theorem e7 {p:Prop}(h:p:=by kernel_rfl):p:=h
theorem e8 {p:Prop}(h:p:=by first | omega | (dsimp only; omega) | (simp only [List.length_nil]; omega) | decide):p:=h
theorem e9 {p:Prop}(h:p:=by first | omega | (simp; done) | (simp; omega)):p:=h
theorem f0 {p:Prop}(h:p:=by rw [Lm _ (by omega)]; omega):p:=h
theorem f1 {p:Prop}(h:p:=by first | rfl | omega | (simp only [List.length_append,List.length_cons,List.length_nil,List.length_take,List.length_drop,List.length_set,List.length_replicate,List.length_map] <;> omega)):p:=h
theorem f2 {p:Prop}(h:p:=by decide):p:=h
theorem f3 {p:Prop}(h:p:=by first | exact⟨Lj rfl,Lj rfl⟩ | omega | exact⟨Nat.le_refl _,by omega⟩):p:=h
theorem f4 {p:Prop}(h:p:=by first | omega | (dsimp only; omega) | (dsimp only [List.length_cons,List.length_nil]; omega)):p:=h
theorem f5 {p:Prop}(h:p:=by assumption):p:=h
theorem f7 {p:Prop}(h:p:=by first | omega | (simp only [List.length_append,List.length_cons,List.length_nil] <;> omega)):p:=h
theorem f9 {p:Prop}(h:p:=by first | omega | (simp only [List.length_cons,List.length_nil,List.length_append]; omega)):p:=h
theorem g1 {p:Prop}(h:p:=by rw [Lm _ (by omega)]):p:=h
theorem g2 {p:Prop}(h:p:=by first | omega | (simp only [List.length_nil]; omega) | decide):p:=h
theorem g3 {p:Prop}(h:p:=by first | omega | (simp only [List.length_append,List.length_cons,List.length_nil,List.length_take,List.length_drop,List.length_set]; omega)):p:=h
theorem g4 {p:Prop}(h:p:=by first | rfl | omega | (simp only [List.length_set] <;> omega)):p:=h
theorem g5 {p:Prop}(h:p:=by first | assumption | exact Mk.act (by assumption)):p:=h
theorem g6 {p:Prop}(h:p:=by first | omega | (simp only [List.length_take,List.length_drop]; omega) | exact Nat.le_refl _):p:=h
theorem g7 {p:Prop}(h:p:=by rw [IntWalk.u64_in _ (by omega)]; omega):p:=h
theorem g8 {p:Prop}(h:p:=by first | omega | exact Lj rfl):p:=h
theorem i0 {p:Prop}(h:p:=by first | omega | (dsimp only; omega) | (simp only [List.length_cons,List.length_nil]; omega) | decide):p:=h
theorem i2 {p:Prop}(h:p:=by first | omega | (dsimp only; omega)):p:=h
theorem i3 {p:Prop}(h:p:=by first | omega | (dsimp only; omega) | (simp only [List.length_nil]; omega)):p:=h
theorem i4 {p:Prop}(h:p:=by first | omega | (simp only [List.length_drop,List.length_take,List.length_append,List.length_cons,List.length_nil]; omega)):p:=h
theorem i5 {p:Prop}(h:p:=by first | omega | (simp only [List.length_cons,List.length_nil]; omega)):p:=h
theorem i6 {p:Prop}(h:p:=by rw [List.length_append]; omega):p:=h
theorem i7 {p:Prop}(h:p:=by simp):p:=h
theorem i8 {p:Prop}(h:p:=by first | omega | exact .inl rfl):p:=h
theorem j1 {p:Prop}(h:p:=by simp only [List.length_append,List.length_cons,List.length_nil]):p:=h
theorem j2 {p:Prop}(h:p:=by rw [List.length_map]; omega):p:=h
theorem j7 {p:Prop}(h:p:=by rw [List.length_map]):p:=h
theorem j8 {p:Prop}(h:p:=by first | omega | (simp only [List.length_take]; omega)):p:=h
theorem j9 {p:Prop}(h:p:=by first | assumption | exact Mk.dec (by assumption)):p:=h
theorem l3 {p:Prop}(h:p:=by simp; omega):p:=h
end Go.Proofs.YtbkagebjhbphaaaGreat
