/- The layers told, part 1. Conditions: none beyond each law's own. -/
import Derived.Test.YtndamapfnpihpaaGreatRows
import Derived.WalkKit
import Derived.WalkLawsBesides
import Derived.WalkSpells
import Derived.Scope
import Derived.OrdersHeld
import Derived.IntWalk
import Derived.Lib.Hide
import Derived.Deep.AppendSrc
import Derived.Deep.Draws
import Derived.Laws.IdiomStrings
import Derived.Laws.MakeOwn
import Derived.Sort.Walk0
import Derived.Deep.Slices
import Derived.ChangeArms
import Derived.ChangeSame
import Derived.WideShapes
import Derived.SizedLaws
import Derived.Laws.StructEq
import Derived.Deep.DeepAppendWide
import Derived.Lib.Bytealg
import Derived.Lib.Overlaps
import Derived.Lib.AppendZerosOnto
import Derived.Lib.MinMaxS
import Derived.MapKept
namespace Go
theorem zj {α:Sort _}{a b c:α}(h:a=b)(g:a=c):b=c:=h.symm.trans g
end Go
namespace Go.Proofs.YtndamapfnpihpaaGreat
set_option maxRecDepth 100000
set_option linter.unusedVariables false
set_option linter.unusedSimpArgs false
set_option linter.unusedSectionVars false
abbrev Lh:=@Nat.le_of_ble_eq_true
abbrev Lj:=@IntWalk.i64_in
abbrev Lm:=@Nat.zero_le
abbrev Lp:=@not_not_intro
abbrev Lr:=@Bool.eq_false_or_eq_true
open Nat renaming beq->j7,beq_refl->j9,eq_of_beq_eq_true->l2,le_of_ble_eq_true->j8
section
open Go.RowKit
def look:List (Nat × Value)->Nat->Option Value
  | [],_=>none
  | (k,v)::r,t=>bif j7 k t then some v else look r t
def ev (F:List (Nat × Value)):Operand->Option Value
  | .tmp t=>look F t
  | .const v=>some v
  | .global g=>some (.pointer (some ⟨g,0,none⟩))
  | .func f=>some (.func (.func f) #[] #[])
def vM (F:List (Nat × Value)):List Operand->Option (List Value)
  | []=>some []
  | x::r=>match ev F x,vM F r with
    | some v,some vs=>some (v::vs)
    | _,_=>none
structure Ag0 (n:Nat) (F:List (Nat × Value)) (a:Act):Prop where
  size:a.tmps.size=n
  at_:∀ t v,look F t=some v->a.tmps[t]? =some v
structure Ag (n:Nat) (F:List (Nat × Value)) (a:Act):Prop extends Ag0 n F a where
  defers:a.defers= []
section
variable {n:Nat} {F G:List (Nat × Value)} {a:Act}
theorem Ag0.getD (h:Ag0 n F a) {t:Nat} {v d:Value} (hv:look F t=some v):a.tmps.getD t d=v:=by
  simp [h.at_ t v hv]
theorem Ag0.eval (h:Ag0 n F a) {x:Operand} {v:Value} (hx:ev F x=some v):a.eval x=v:=by
  cases x with
  | tmp t=>exact h.getD hx
  | const c=>exact Option.some.inj hx
  | global g=>exact Option.some.inj hx
  | func f=>exact Option.some.inj hx
theorem Ag0.evals (h:Ag0 n F a):∀ {xs:List Operand} {vs:List Value},vM F xs=some vs->xs.map a.eval=vs
  | [],vs,hx=>by simp [vM] at hx; subst hx; rfl
  | x::r,vs,hx=>by
    unfold vM at hx
    split at hx
    . rename_i v vs' b c
      simp only [Option.some.injEq] at hx
      subst hx
      rw [List.map_cons,h.eval b,h.evals c]
    . cases hx
theorem Ag0.put (h:Ag0 n F a) {d:Nat} {v:Value} (hd:Nat.blt d n=true):Ag0 n ((d,v)::F) (a.put (some d) v):=by
  have hd':d < n:=j8 hd
  refine⟨by simp [Act.put,h.size],λ t u hu=> ?_⟩
  unfold look at hu
  by_cases e:d=t
  . subst e
    simp only [j9,cond_true,Option.some.injEq] at hu
    subst hu
    simp [Act.put,h.size,hd']
  . have:j7 d t=false:=by
      rw [Bool.eq_false_iff]; intro hh; exact e (l2 hh)
    rw [this,cond_false] at hu
    simp only [Act.put,Array.getElem?_setIfInBounds_ne e]
    exact h.at_ t u hu
theorem Ag.put (h:Ag n F a) {d:Nat} {v:Value} (hd:Nat.blt d n=true):Ag n ((d,v)::F) (a.put (some d) v):=⟨h.toAg0.put hd,h.defers⟩
theorem Ag.put0 (h:Ag n F a) (v:Value):Ag n F (a.put none v):=h
def xx:List (Nat × Value)->List (Nat × Value)->Prop
  | [],_=>True
  | (t,v)::r,F=>look F t=some v/\xx r F
theorem xx.look:∀ {G:List (Nat × Value)},xx G F->∀ t v,look G t=some v->look F t=some v
  | [],_,t,v,h=>by simp [Go.Proofs.YtndamapfnpihpaaGreat.look] at h
  | (k,u)::r,hs,t,v,h=>by
    unfold Go.Proofs.YtndamapfnpihpaaGreat.look at h
    by_cases e:k=t
    . subst e
      simp only [j9,cond_true,Option.some.injEq] at h
      subst h
      exact hs.1
    . have:j7 k t=false:=by
        rw [Bool.eq_false_iff]; intro hh; exact e (l2 hh)
      rw [this,cond_false] at h
      exact xx.look hs.2 t v h
theorem Ag0.sub (h:Ag0 n F a) (hs:xx G F):Ag0 n G a:=⟨h.size,λ t v hv=>h.at_ t v (hs.look t v hv)⟩
theorem Ag.sub (h:Ag n F a) (hs:xx G F):Ag n G a:=⟨h.toAg0.sub hs,h.defers⟩
end
def Wp (P:Program) (c:Code) (n:Nat) (F:List (Nat × Value)) (w:World) (Q:Exit->Act->World->Prop):Prop:=∀ a,Ag n F a->c.wp P Q a w
def Fin (Q:Exit->Act->World->Prop) (e:Exit) (n:Nat) (F:List (Nat × Value)) (w:World):Prop:=∀ a,Ag n F a->Q e a w
def WL (P:Program) (ops:Array Oper) (Q:Exit->Act->World->Prop) (rest:List Oper) (n:Nat) (F:List (Nat × Value)) (w:World):Prop:=∀ a,Ag n F a->wpList P ops Q rest a w
section
variable {P:Program} {n:Nat} {F:List (Nat × Value)} {w:World} {Q:Exit->Act->World->Prop} {K:Act->World->Prop}
theorem H7 {x y:Code} (h:Wp P x n F w (Exit.then (λ a w=>y.wp P Q a w) Q)):Wp P (.seq x y) n F w Q:=λ a ha=>wp_seq (h a ha)
theorem IG (h:Fin Q .normal n F w):Wp P .skip n F w Q:=λ a ha=>wp_skip (h a ha)
theorem Wp.exit {i:Nat} (h:Fin Q (.exit i) n F w):Wp P (.exit i) n F w Q:=λ a ha=>wp_exit (h a ha)
theorem Wp.ret (h:Fin Q .ret n F w):Wp P .ret n F w Q:=λ a ha=>wp_ret (h a ha)
theorem Wp.block {i:Nat} {c:Code} (h:Wp P c n F w (Exit.inBlock i Q)):Wp P (.block i c) n F w Q:=λ a ha=>wp_block (h a ha)
theorem Ke {c:Operand} {x y:Code} {b:Bool} (hc:ev F c=some (.bool b)) (ht:b=true->Wp P x n F w Q) (hf:b=false->Wp P y n F w Q):Wp P (.cond c x y) n F w Q:=
  λ a ha=>wp_cond_split (ha.eval hc) (λ h=>ht h a ha) (λ h=>hf h a ha)
theorem JZ {c:Operand} {x y:Code} {b:Bool} (hc:ev F c=some (.bool b)) (hb:b=true) (ht:Wp P x n F w Q):Wp P (.cond c x y) n F w Q:=
  Ke hc (λ _=>ht) (λ h=>by rw [hb] at h; cases h)
theorem J2 {c:Operand} {x y:Code} {b:Bool} (hc:ev F c=some (.bool b)) (hb:b=false) (hf:Wp P y n F w Q):Wp P (.cond c x y) n F w Q:=
  Ke hc (λ h=>by rw [hb] at h; cases h) (λ _=>hf)
theorem H8 {i:Nat} {l:List Oper} (h:WL P l.toArray Q l n F w):Wp P (.region i l.toArray false) n F w Q:=λ a ha=>wp_region_lit (h a ha)
theorem Ib {y:Code} (h:Wp P y n F w Q):Fin (Exit.then (λ a w=>y.wp P Q a w) Q) .normal n F w:=h
theorem Ip {i:Nat} (h:Fin Q (.exit i) n F w):Fin (Exit.then K Q) (.exit i) n F w:=h
theorem Iz {i:Nat} (h:Fin Q .normal n F w):Fin (Exit.inBlock i Q) (.exit i) n F w:=λ a ha=>by
  simp only [Exit.inBlock,if_true]; exact h a ha
theorem Ki {i j:Nat} (hne:j7 j i=false) (h:Fin Q (.exit j) n F w):Fin (Exit.inBlock i Q) (.exit j) n F w:=λ a ha=>by
  have:j≠i:=λ e=>by subst e; rw [j9] at hne; cases hne
  simp only [Exit.inBlock,if_neg this]; exact h a ha
theorem WL.nil {ops:Array Oper} (h:Fin Q .normal n F w):WL P ops Q [] n F w:=λ a ha=>wpList_nil (h a ha)
theorem Wp.loop {c:Code} {ι:Type} (Fh:ι->List (Nat × Value)) (S:ι->World->Prop) (μ:ι->Nat) (g:ι) (j:xx (Fh g) F) (hS:S g w)
    (round:∀ i w,S i w->Wp P c n (Fh i) w (Exit.then (λ a' w'=> ∃ i',Ag n (Fh i') a'/\S i' w'/\μ i' < μ i) Q)):Wp P (.loop c) n F w Q:=by
  intro a ha b k cs
  have key:∀ m i a w,μ i=m->Ag n (Fh i) a->S i w->∃ e a' w',Q e a' w'/\Arrives P (lone (b.at a (.code c:: .inLoop c::k)) cs w) b k cs e a' w':=by
    intro m
    induction m using Nat.strongRecOn with
    | _ m ih=>
      intro i a w hm ha hs
      obtain⟨e,d,f,hq,harr⟩:=round i w hs a ha b (.inLoop c::k) cs
      cases e with
      | normal=>
        obtain⟨i',ha',hs',hlt⟩:=hq
        obtain⟨o,p,q,h,harr2⟩:=ih (μ i') (hm ▸ hlt) i' d f rfl ha' hs'
        exact⟨o,p,q,h, .of_steps (Steps.trans harr (.one step_inLoop)) harr2⟩
      | exit id=>exact⟨_,d,f,hq, .pass (x:= .inLoop c) rfl (λ _ _=> .inl (by simp)) harr⟩
      | goto l=>exact⟨_,d,f,hq, .pass (x:= .inLoop c) rfl (λ _ _=> .inl (by simp)) harr⟩
      | ret=>exact⟨_,d,f,hq, .pass (x:= .inLoop c) rfl (λ _ _=> .inl (by simp)) harr⟩
      | panic ch=>exact⟨_,d,f,hq, .pass (x:= .inLoop c) rfl (λ _ _=> .inl (by simp)) harr⟩
      | outgrown=>exact⟨_,d,f,hq, .pass (x:= .inLoop c) rfl (λ _ _=> .inl (by simp)) harr⟩
  obtain⟨e,a',w',hq,harr⟩:=key _ g a w rfl (ha.sub j) hS
  exact⟨e,a',w',hq, .of_steps (.one step_loop) harr⟩
theorem Iq {ι:Type} {Fh:ι->List (Nat × Value)} {S:ι->World->Prop} {μ:ι->Nat} {m:Nat} (i':ι) (hs:xx (Fh i') F) (hS:S i' w) (hm:μ i' < m):
    Fin (Exit.then (λ a' w'=> ∃ i',Ag n (Fh i') a'/\S i' w'/\μ i' < m) Q) .normal n F w:=λ a ha=>⟨i',ha.sub hs,hS,hm⟩
theorem Jl {x y:Code} {ι:Type} (Fj:ι->List (Nat × Value)) (S:ι->World->Prop) (b:Wp P x n F w (Exit.then (λ a' w'=> ∃ i,Ag n (Fj i) a'/\S i w') Q))
    (c:∀ i w',S i w'->Wp P y n (Fj i) w' Q):Wp P x n F w (Exit.then (λ a w=>y.wp P Q a w) Q):=λ a ha=>
  wp_mono (b a ha) λ e a' w' h=>by
    cases e with
    | normal=>obtain⟨i,ha',hs⟩:=h; exact c i w' hs a' ha'
    | _=>exact h
theorem I1 {ι:Type} {Fj:ι->List (Nat × Value)} {S:ι->World->Prop} (i:ι) (hs:xx (Fj i) F) (hS:S i w):
    Fin (Exit.then (λ a' w'=> ∃ i,Ag n (Fj i) a'/\S i w') Q) .normal n F w:=λ a ha=>⟨i,ha.sub hs,hS⟩
def BP:Nat->List Value->List (Nat × Value)
  | _, []=> []
  | k,v::r=>(k,v)::BP (k+1) r
theorem Ai:∀ (vs:List Value) (k t:Nat) (v:Value),look (BP k vs) t=some v->k<=t/\vs[t - k]? =some v
  | [],_,_,_,h=>by cases h
  | u::r,k,t,v,h=>by
    unfold BP look at h
    by_cases e:k=t
    . subst e
      simp only [j9,cond_true,Option.some.injEq] at h
      subst h
      simp
    . have:j7 k t=false:=by
        rw [Bool.eq_false_iff]; intro hh; exact e (l2 hh)
      rw [this,cond_false] at h
      obtain⟨c,b⟩:=Ai r (k+1) t v h
      refine⟨by omega, ?_⟩
      rw [show t - k=(t - (k+1))+1 by omega,List.getElem?_cons_succ]
      exact b
theorem Kj {f:FuncId} {fn:Func} {c:Code} {args:List Value} {R:Ending->World->Prop} (hf:P.funcs[f]? =some fn) (hb:fn.body=some c) (hn:fn.ntmps=n) (hl:Nat.ble args.length n=true)
    (h:Wp P c n (BP 0 args) w (bodyPost P fn R)):Calls P f args.toArray w R:=by
  refine calls_of_wp hf hb (h _ ⟨⟨?_,λ t v hv=> ?_⟩,rfl⟩)
  . have:args.length<=n:=j8 hl
    simp only [Array.size_append,List.size_toArray,Array.size_replicate,hn]; omega
  . obtain⟨_,b⟩:=Ai _ _ _ _ hv
    rw [Nat.sub_zero] at b
    have hlt:=(List.getElem?_eq_some_iff.1 b).1
    simp only
    rw [Array.getElem?_append_left (by simpa using hlt)]
    simpa using b
def dI (R:Value->World->Prop):Ending->World->Prop:=λ e w=> ∃ v,e= .returned v/\R v w
theorem dI.mono {R R':Value->World->Prop} {f:FuncId} {args:Array Value} (h:Calls P f args w (dI R)) (k:∀ v w',R v w'->R' v w'):Calls P f args w (dI R'):=
  h.mono λ _ _ ⟨v,e,r⟩=>⟨v,e,k _ _ r⟩
theorem Ir {fn:Func} {R:Value->World->Prop} {v:Value} (hr:∀ a,Ag0 n F a->(results fn a.tmps).run P w= .ok v w) (h:R v w):Fin (bodyPost P fn (dI R)) .ret n F w:=
  λ a ha=>⟨ha.defers,v,hr a ha.toAg0,v,rfl,h⟩
theorem IV {fn:Func} {R:Value->World->Prop} {v:Value} (hr:∀ a,Ag0 n F a->(results fn a.tmps).run P w= .ok v w) (h:R v w):Fin (bodyPost P fn (dI R)) .normal n F w:=
  λ a ha=>⟨ha.defers,v,hr a ha.toAg0,v,rfl,h⟩
def bH (Q:Exit->Act->World->Prop):Prop:=∀ c a w, ¬ Q (.panic c) a w
theorem Iw {fn:Func} {R:Value->World->Prop}:bH (bodyPost P fn (dI R)):=λ _ _ _ ⟨_,_,h,_⟩=>by cases h
theorem Ik (h:bH Q):bH (Exit.then K Q):=h
theorem bH.block {i:Nat} (h:bH Q):bH (Exit.inBlock i Q):=h
theorem G6 {fn:Func} {t:Tmp} {v:Value} (h:fn.results= #[.tmp t]) (hv:look F t=some v):∀ a,Ag0 n F a->(results fn a.tmps).run P w= .ok v w:=
  λ a ha=>by rw [results_tmp h,ha.getD hv]
theorem kD {fn:Func} {t u:Tmp} {v v':Value} (h:fn.results= #[.tmp t, .tmp u]) (hv:look F t=some v) (hv':look F u=some v'):∀ a,Ag0 n F a->(results fn a.tmps).run P w= .ok (.tuple #[v,v']) w:=
  λ a ha=>by rw [results_tmp2 h,ha.getD hv,ha.getD hv']
theorem xC {fn:Func} {t u s:Tmp} {v v' c:Value} (h:fn.results= #[.tmp t, .tmp u, .tmp s]) (hv:look F t=some v) (hv':look F u=some v') (b:look F s=some c):∀ a,Ag0 n F a->(results fn a.tmps).run P w= .ok (.tuple #[v,v',c]) w:=
  λ a ha=>by simp [results,h,ha.at_ _ _ hv,ha.at_ _ _ hv',ha.at_ _ _ b]
theorem wh {fn:Func} {t u s r:Tmp} {v v' d e:Value} (h:fn.results= #[.tmp t, .tmp u, .tmp s, .tmp r]) (hv:look F t=some v) (hv':look F u=some v') (b:look F s=some d) (c:look F r=some e):∀ a,Ag0 n F a->(results fn a.tmps).run P w= .ok (.tuple #[v,v',d,e]) w:=
  λ a ha=>by simp [results,h,ha.at_ _ _ hv,ha.at_ _ _ hv',ha.at_ _ _ b,ha.at_ _ _ c]
theorem res0 {fn:Func} (h:fn.results= #[]):∀ a,Ag0 n F a->(results fn a.tmps).run P w= .ok (.tuple #[]) w:=λ a _=>results_none h a.tmps P w
def bQ (P:Program) (w:World) (t:TypeId) (p:Addr) (v:Value):Prop:=(loadVar t p).run P w= .ok v w
inductive bT (P:Program) (F:List (Nat × Value)) (w:World):List ResultVar->List Value->Prop
  | nil:bT P F w [] []
  | tmp {t:Tmp} {v:Value} {rs:List ResultVar} {vs:List Value} (h:look F t=some v) (r:bT P F w rs vs):bT P F w (.tmp t::rs) (v::vs)
  | cell {t:Tmp} {T:TypeId} {p:Addr} {v:Value} {rs:List ResultVar} {vs:List Value} (h:look F t=some (.pointer (some p))) (hl:bQ P w T p v) (r:bT P F w rs vs):bT P F w (.cell t T::rs) (v::vs)
def y5 (tmps:Array Value):ResultVar->Sem Value
  | .tmp t=>pure (tmps.getD t undef)
  | .cell a t=>do loadVar t (<- asAddr (tmps.getD a undef))
theorem bT.run {a:Act} (ha:Ag0 n F a):∀ {rs:List ResultVar} {vs:List Value},bT P F w rs vs->Sem.run P (rs.mapM (y5 a.tmps)) w=Result.ok vs w
  | _,_, .nil=>rfl
  | _,_, .tmp h r=>by
    rw [List.mapM_cons]
    simp only [y5,Sem.run_bind,Sem.run_pure,Result.andThen_ok,bT.run ha r,ha.getD h]
  | _,_, .cell h hl r=>by
    rw [List.mapM_cons]
    simp only [y5,ha.getD h,asAddr,Sem.run_bind,Sem.run_pure,Result.andThen_ok]
    rw [hl]
    simp only [Result.andThen_ok,bT.run ha r]
theorem gq {fn:Func} {rs:List ResultVar} {vs:List Value} (h:fn.results=rs.toArray) (hv:bT P F w rs vs) (hn:2<=vs.length):∀ a,Ag0 n F a->(results fn a.tmps).run P w= .ok (.tuple vs.toArray) w:=λ a ha=>by
  have e:results fn a.tmps=(do
      let xs <- fn.results.mapM (y5 a.tmps)
      pure (if h:xs.size=1 then xs[0] else .tuple xs)):=rfl
  rw [e,h,List.mapM_toArray]
  simp only [Functor.map,Sem.run_bind,Sem.run_pure,Result.andThen_ok,hv.run ha]
  have hb:Sem.run P ((rs.mapM (y5 a.tmps)).bind (Sem.pure ∘ List.toArray)) w= .ok vs.toArray w:=by
    show Sem.run P (rs.mapM (y5 a.tmps) >>=λ x=>(pure x.toArray:Sem (Array Value))) w=_
    rw [Sem.run_bind,hv.run ha]; rfl
  rw [hb]
  simp only [Result.andThen_ok]
  rw [dif_neg (by simp; omega)]
theorem oZ {fn:Func} {t:Tmp} {T:TypeId} {p:Addr} {v:Value} (h:fn.results= #[.cell t T]) (hp:look F t=some (.pointer (some p))) (hl:bQ P w T p v):∀ a,Ag0 n F a->(results fn a.tmps).run P w= .ok v w:=λ a ha=>by
  simp [results,h,ha.at_ _ _ hp,asAddr]
  unfold bQ at hl
  simp [hl,Result.andThen]
end
theorem b3 {α:Type _}{a0:α}{l:List α}:a0∈a0::l:=.head _
theorem b4 {α:Type _}{a0 a1:α}{l:List α}:a1∈a0::a1::l:=.tail _ (.head _)
theorem b5 {α:Type _}{a0 a1 a2:α}{l:List α}:a2∈a0::a1::a2::l:=.tail _ (.tail _ (.head _))
theorem b6 {α:Type _}{a0 a1 a2 a3:α}{l:List α}:a3∈a0::a1::a2::a3::l:=.tail _ (.tail _ (.tail _ (.head _)))
theorem b7 {α:Type _}{a0 a1 a2 a3 a4:α}{l:List α}:a4∈a0::a1::a2::a3::a4::l:=.tail _ (.tail _ (.tail _ (.tail _ (.head _))))
theorem b8 {α:Type _}{a0 a1 a2 a3 a4 a5:α}{l:List α}:a5∈a0::a1::a2::a3::a4::a5::l:=.tail _ (.tail _ (.tail _ (.tail _ (.tail _ (.head _)))))
theorem b9 {α:Type _}{a0 a1 a2 a3 a4 a5 a6:α}{l:List α}:a6∈a0::a1::a2::a3::a4::a5::a6::l:=.tail _ (.tail _ (.tail _ (.tail _ (.tail _ (.tail _ (.head _))))))
theorem e2 {α:Type _}{a0 a1 a2 a3 a4 a5 a6 a7:α}{l:List α}:a7∈a0::a1::a2::a3::a4::a5::a6::a7::l:=.tail _ (.tail _ (.tail _ (.tail _ (.tail _ (.tail _ (.tail _ (.head _)))))))
theorem e3 {α:Type _}{a0 a1 a2 a3 a4 a5 a6 a7 a8:α}{l:List α}:a8∈a0::a1::a2::a3::a4::a5::a6::a7::a8::l:=.tail _ (.tail _ (.tail _ (.tail _ (.tail _ (.tail _ (.tail _ (.tail _ (.head _))))))))
theorem e4 {α:Type _}{a0 a1 a2 a3 a4 a5 a6 a7 a8 a9:α}{l:List α}:a9∈a0::a1::a2::a3::a4::a5::a6::a7::a8::a9::l:=.tail _ (.tail _ (.tail _ (.tail _ (.tail _ (.tail _ (.tail _ (.tail _ (.tail _ (.head _)))))))))
theorem e5 {α:Type _}{a0 a1 a2 a3 a4 a5 a6 a7 a8 a9 a10:α}{l:List α}:a10∈a0::a1::a2::a3::a4::a5::a6::a7::a8::a9::a10::l:=.tail _ (.tail _ (.tail _ (.tail _ (.tail _ (.tail _ (.tail _ (.tail _ (.tail _ (.tail _ (.head _))))))))))
theorem e6 {α:Type _}{a0 a1 a2 a3 a4 a5 a6 a7 a8 a9 a10 a11:α}{l:List α}:a11∈a0::a1::a2::a3::a4::a5::a6::a7::a8::a9::a10::a11::l:=.tail _ (.tail _ (.tail _ (.tail _ (.tail _ (.tail _ (.tail _ (.tail _ (.tail _ (.tail _ (.tail _ (.head _)))))))))))
theorem e7 {α:Type _}{a0 a1 a2 a3 a4 a5 a6 a7 a8 a9 a10 a11 a12:α}{l:List α}:a12∈a0::a1::a2::a3::a4::a5::a6::a7::a8::a9::a10::a11::a12::l:=.tail _ (.tail _ (.tail _ (.tail _ (.tail _ (.tail _ (.tail _ (.tail _ (.tail _ (.tail _ (.tail _ (.tail _ (.head _))))))))))))
theorem e8 {p:Prop}(h:p:=by first|omega|(dsimp only;omega)):p:=h
theorem e9 {p:Prop}(h:p:=by kernel_rfl):p:=h
theorem f0 {p:Prop}(h:p:=by first | omega | (dsimp only; omega) | (simp only [List.length_cons,List.length_nil]; omega)):p:=h
theorem f1 {p:Prop}(h:p:=by rw [Lj _ (by omega)]; omega):p:=h
theorem f2 {p:Prop}(h:p:=by first | omega | (simp; done) | (simp; omega)):p:=h
theorem f3 {p:Prop}(h:p:=by first | omega | (simp only [List.length_append,List.length_cons,List.length_nil] <;> omega)):p:=h
theorem f5 {p:Prop}(h:p:=by decide):p:=h
theorem f6 {p:Prop}(h:p:=by assumption):p:=h
theorem f7 {p:Prop}(h:p:=by first | exact⟨Lh rfl,Lh rfl⟩ | omega | exact⟨Nat.le_refl _,by omega⟩):p:=h
theorem f8 {p:Prop}(h:p:=by first | omega | (dsimp only; omega) | (simp only [List.length_nil]; omega)):p:=h
theorem f9 {p:Prop}(h:p:=by first | omega | (dsimp only; omega)):p:=h
theorem g4 {p:Prop}(h:p:=by first | omega | (dsimp only; omega) | (simp only [List.length_nil]; omega) | decide):p:=h
theorem g5 {p:Prop}(h:p:=by first | omega | (simp only [List.length_drop,List.length_take,List.length_append,List.length_cons,List.length_nil]; omega)):p:=h
theorem g6 {p:Prop}(h:p:=by first | rfl | omega | (simp only [List.length_append,List.length_cons,List.length_nil,List.length_take,List.length_drop,List.length_set,List.length_replicate,List.length_map] <;> omega)):p:=h
theorem g7 {p:Prop}(h:p:=by first | omega | exact Lh rfl):p:=h
theorem i0 {p:Prop}(h:p:=by first | omega | exact Lm _):p:=h
theorem i1 {p:Prop}(h:p:=by first | omega | exact .inl rfl):p:=h
theorem i2 {p:Prop}(h:p:=by first | omega | exact⟨rfl,by omega⟩ | exact⟨rfl,Lm _⟩ | exact⟨rfl,Lh rfl⟩ | exact⟨by omega,Lm _⟩):p:=h
theorem i3 {p:Prop}(h:p:=by simp):p:=h
theorem i4 {p:Prop}(h:p:=by first | omega | (simp only [List.length_cons,List.length_nil]; done) | (simp only [List.length_cons,List.length_nil,List.length_take,List.length_drop]; omega)):p:=h
theorem i5 {p:Prop}(h:p:=by rw [Lj _ (by omega)]):p:=h
theorem i6 {p:Prop}(h:p:=by first | omega | (simp only [List.length_append,List.length_cons,List.length_nil,List.length_take,List.length_drop,List.length_set]; omega)):p:=h
theorem i7 {p:Prop}(h:p:=by first | rfl | omega | (simp only [List.length_set] <;> omega)):p:=h
theorem i8 {p:Prop}(h:p:=by first | rfl | assumption):p:=h
theorem i9 {p:Prop}(h:p:=by first | exact Nat.le_refl _ | omega | (dsimp only; omega)):p:=h
theorem j1 {p:Prop}(h:p:=by first | omega | (dsimp only; omega) | exact Lm _):p:=h
end
open List renaming any_eq_true->l4,mem_singleton->m2
open Nat renaming blt->l3
section
open Go.RowKit
def Yl (P:Program) (n:Nat) (F:List (Nat × Value)) (w:World) (op:Op) (ty:TypeId) (v:Value):Prop:=
  ∀ a,Ag0 n F a->∀ o:Oper,o.op=op->o.type=ty->(execOp a.eval o).run P w= .ok (.value v) w
def Do (P:Program) (n:Nat) (F:List (Nat × Value)) (w:World) (op:Op) (ty:TypeId) (K:Value->World->Prop):Prop:=
  ∀ a,Ag0 n F a->∀ o:Oper,o.op=op->o.type=ty->∀ (next:Act->World->Prop) (Q:Exit->Act->World->Prop),(∀ v w',K v w'->next (a.put o.dst v) w')->o.upon P a next Q ((execOp a.eval o).run P w)
section
variable {P:Program} {n:Nat} {F:List (Nat × Value)} {w:World} {op:Op} {ty:TypeId} {v:Value} {K:Value->World->Prop}
theorem Yl.do (h:Yl P n F w op ty v) (k:K v w):Do P n F w op ty K:=λ a ha o b c next Q hn=>by
  rw [h a ha o b c]; exact hn v w k
theorem Do.mono {K':Value->World->Prop} (h:Do P n F w op ty K) (hk:∀ v w',K v w'->K' v w'):Do P n F w op ty K':=λ a ha o b c next Q hn=>
  h a ha o b c next Q λ v w' k=>hn v w' (hk v w' k)
variable {ops:Array Oper} {rest:List Oper} {Q:Exit->Act->World->Prop} {pos:String} {aft:Array Edge} {d:Nat}
theorem WL.do (hd:l3 d n=true) (h:Do P n F w op ty λ v w'=>WL P ops Q rest n ((d,v)::F) w'):WL P ops Q (⟨some d,op,ty,pos,aft,none⟩::rest) n F w:=λ a ha=>
  wpList_plain rfl λ _ hK=>h a ha.toAg0 _ rfl rfl _ _ λ v w' k=>hK _ _ (k _ (ha.put hd))
theorem I5 (h:Do P n F w op ty λ _ w'=>WL P ops Q rest n F w'):WL P ops Q (⟨none,op,ty,pos,aft,none⟩::rest) n F w:=λ a ha=>
  wpList_plain rfl λ _ hK=>h a ha.toAg0 _ rfl rfl _ _ λ v w' k=>hK _ _ (k _ (ha.put0 v))
theorem WL.val (hd:l3 d n=true) (hy:Yl P n F w op ty v) (h:WL P ops Q rest n ((d,v)::F) w):WL P ops Q (⟨some d,op,ty,pos,aft,none⟩::rest) n F w:=
  WL.do hd (hy.do h)
theorem qM {a:Act} {j t:Nat} {b:Bool} (ha:Ag0 n F a) (hj:(ops[j]?).bind (·.dst)=some t) (hv:look F t=some (.bool b)):yielded ops a.tmps j=some b:=by
  unfold yielded
  rw [hj]
  simp [ha.at_ _ _ hv]
theorem vN {a:Act} {j t:Nat} (ha:Ag0 n F a) (hj:(ops[j]?).bind (·.dst)=some t) (hv:look F t=some undef):yielded ops a.tmps j=none:=by
  unfold yielded
  rw [hj]
  simp [ha.at_ _ _ hv,undef]
theorem Ij {j t:Nat} {b:Bool} (hj:(ops[j]?).bind (·.dst)=some t) (hv:look F t=some undef) (hd:l3 d n=true) (h:WL P ops Q rest n ((d,undef)::F) w):
    WL P ops Q (⟨some d,op,ty,pos,aft,some (j,b)⟩::rest) n F w:=λ a ha=>
  wpList_step λ _ hK=>by
    have hw:Region.wanted ⟨some d,op,ty,pos,aft,some (j,b)⟩ (yielded ops a.tmps)=false:=by simp [Region.wanted,vN ha.toAg0 hj hv]
    rw [hw,if_neg f5]
    exact hK _ _ (h _ (ha.put hd))
theorem I9 {j t:Nat} {b b':Bool} (hj:(ops[j]?).bind (·.dst)=some t) (hv:look F t=some (.bool b')) (hb:b'=b) (hd:l3 d n=true) (h:Do P n F w op ty λ v w'=>WL P ops Q rest n ((d,v)::F) w'):
    WL P ops Q (⟨some d,op,ty,pos,aft,some (j,b)⟩::rest) n F w:=λ a ha=>
  wpList_step λ _ hK=>by
    have hw:Region.wanted ⟨some d,op,ty,pos,aft,some (j,b)⟩ (yielded ops a.tmps)=true:=by subst hb; simp [Region.wanted,qM ha.toAg0 hj hv]
    rw [if_pos hw]
    exact h a ha.toAg0 _ rfl rfl _ _ λ v w' k=>hK _ _ (k _ (ha.put hd))
theorem IQ {j t:Nat} {b b':Bool} (hj:(ops[j]?).bind (·.dst)=some t) (hv:look F t=some (.bool b')) (hb:b'=b) (hd:l3 d n=true) (hy:Yl P n F w op ty v) (h:WL P ops Q rest n ((d,v)::F) w):
    WL P ops Q (⟨some d,op,ty,pos,aft,some (j,b)⟩::rest) n F w:=I9 hj hv hb hd (hy.do h)
theorem J3 {j t:Nat} {b b':Bool} (hj:(ops[j]?).bind (·.dst)=some t) (hv:look F t=some (.bool b')) (hb:b'= !b) (hd:l3 d n=true) (h:WL P ops Q rest n ((d,undef)::F) w):
    WL P ops Q (⟨some d,op,ty,pos,aft,some (j,b)⟩::rest) n F w:=λ a ha=>
  wpList_step λ _ hK=>by
    have hw:Region.wanted ⟨some d,op,ty,pos,aft,some (j,b)⟩ (yielded ops a.tmps)=false:=by subst hb; simp [Region.wanted,qM ha.toAg0 hj hv]
    rw [hw,if_neg f5]
    exact hK _ _ (h _ (ha.put hd))
end
section game
variable {P:Program} {ops:Array Oper} {Q:Exit->Act->World->Prop} {S:Array Bool->World->Prop}
def vO (ops:Array Oper) (l:Array Bool):Prop:=∀ j,l.getD j false=true->∃ o,ops[j]? =some o/\∀ e ∈ o.after,Region.binds .any e=true->l.getD e.on false=true
theorem Kv (ops:Array Oper):vO ops (Array.replicate ops.size false):=λ j h=>by
  simp only [Array.getD_eq_getD_getElem?,Array.getElem?_replicate] at h
  split at h <;> simp at h
theorem vO.step {l:Array Bool} {i:Nat} (h:vO ops l) (hi:i ∈ Region.ready .any ops l):vO ops (l.setIfInBounds i true):=λ j hj=>by
  by_cases e:i=j
  . subst e
    obtain⟨_,o,ho,hall⟩:=mem_ready.1 hi
    exact⟨o,ho,λ e he hb=>getD_set_true (hall e he hb)⟩
  . rw [getD_set_ne false e] at hj
    obtain⟨o,ho,hall⟩:=h j hj
    exact⟨o,ho,λ e he hb=>getD_set_true (hall e he hb)⟩
def wpAnyS (P:Program) (ops:Array Oper) (Q:Exit->Act->World->Prop) (S:Array Bool->World->Prop):Nat->Array Bool->Act->World->Prop
  | 0,listed,a,w=>Region.ready .any ops listed= []/\Q .normal a w
  | fuel+1,listed,a,w=>
    (Region.ready .any ops listed= []->Q .normal a w)/\
    ∀ i ∈ Region.ready .any ops listed,wpOp P ops Q i (λ a' w'=>S (listed.setIfInBounds i true) w'/\wpAnyS P ops Q S fuel (listed.setIfInBounds i true) a' w') a w
theorem yh:∀ (fuel:Nat) (listed:Array Bool) (a:Act) (w:World),wpAnyS P ops Q S fuel listed a w->wpAny P .any ops Q fuel listed a w
  | 0,_,_,_,h=>h
  | fuel+1,_,_,_,h=>⟨h.1,λ i hi=>wpOp_mono (λ a' w' h'=>yh fuel _ a' w' h'.2) (h.2 i hi)⟩
def Sat (ops:Array Oper) (S:Array Bool->World->Prop) (i:Nat) (w:World):Prop:=∃ l,vO ops l/\l.getD i true=false/\S l w
theorem wpAnyS_first {i:Nat} {oi:Oper} {v:Value} (hi:ops[i]? =some oi) (hsel:∀ (j:Nat) (o:Oper) cs b,ops[j]? =some o->o.op≠ .select cs b)
    (hQ:∀ c a w,Q (.panic c) (a.put oi.dst v) w->Q (.panic c) a w) (hSi:∀ l w,S (l.setIfInBounds i true) w↔S l w):
    ∀ (fuel:Nat) (listed:Array Bool) (a:Act) (w:World),
      (∀ j oj,ops[j]? =some oj->j≠i->listed.getD j true=false->(∀ e ∈ oj.after,Region.binds .any e=true->e.on≠i)->oi.apart ops oj=true)->
      i ∈ Region.ready .any ops listed->YieldsIf P ops (Sat ops S i) oi v a->vO ops listed->S listed w->
      wpAnyS P ops Q S fuel (listed.setIfInBounds i true) (a.put oi.dst v) w->wpAnyS P ops Q S (fuel+1) listed a w:=by
  intro fuel
  induction fuel with
  | zero=>
    intro listed a w _ hr hy hc hS H
    refine⟨λ h=>(by rw [h] at hr; cases hr),λ j hj=> ?_⟩
    by_cases hji:j=i
    . subst hji
      exact hy.wpOp hi ⟨listed,hc,(mem_ready.1 hr).1,hS⟩ ⟨(hSi _ _).2 hS,H⟩
    . have:=ready_mono hj hji
      rw [H.1] at this
      cases this
  | succ fuel ih=>
    intro listed a w hfree hr hy hc hS H
    refine⟨λ h=>(by rw [h] at hr; cases hr),λ j hj=> ?_⟩
    by_cases hji:j=i
    . subst hji; exact hy.wpOp hi ⟨listed,hc,(mem_ready.1 hr).1,hS⟩ ⟨(hSi _ _).2 hS,H⟩
    . have f:=H.2 j (ready_mono hj hji)
      obtain⟨hjun,oj,hoj,hall⟩:=mem_ready.1 hj
      have hnot:∀ e ∈ oj.after,Region.binds .any e=true->e.on≠i:=λ e he hb heq=>by
        have f:=hall e he hb
        have m:=(mem_ready.1 hr).1
        rw [heq] at f
        rcases Nat.lt_or_ge i listed.size with h' | h'
        . simp [h'] at m f; rw [m] at f; cases f
        . simp [Array.getElem?_eq_none h'] at f
      have p:=wpOp_putIf hoj (hfree j oj hoj hji hjun hnot) (λ cs b=>hsel i oi cs b hi) (λ cs b=>hsel j oj cs b hoj) hQ hy f
      have hfree':∀ k ok,ops[k]? =some ok->k≠i->(listed.setIfInBounds j true).getD k true=false->
          (∀ e ∈ ok.after,Region.binds .any e=true->e.on≠i)->oi.apart ops ok=true:=λ k ok hk hki hun hno=>by
        refine hfree k ok hk hki ?_ hno
        by_cases hjk:j=k
        . subst hjk; exact hjun
        . rw [getD_set_ne true hjk] at hun; exact hun
      refine wpOp_mono (λ a' w' g=> ?_) p
      have hS':S (listed.setIfInBounds j true) w':=by
        have:=g.2.1
        rw [<- Array.setIfInBounds_comm _ _ hji] at this
        exact(hSi _ _).1 this
      refine⟨hS',ih (listed.setIfInBounds j true) a' w' hfree' (ready_mono hr (Ne.symm hji)) g.1 (hc.step hj) hS' ?_⟩
      rw [Array.setIfInBounds_comm _ _ hji]
      exact g.2.2
def GW (P:Program) (ops:Array Oper) (Q:Exit->Act->World->Prop) (S:Array Bool->World->Prop) (fuel:Nat) (l:Array Bool) (n:Nat) (F:List (Nat × Value)) (w:World):Prop:=
  vO ops l->S l w->∀ a,Ag n F a->wpAnyS P ops Q S fuel l a w
variable {n:Nat} {F:List (Nat × Value)} {w:World} {op:Op} {ty:TypeId} {v:Value} {fuel:Nat} {l:Array Bool} {pos:String} {aft:Array Edge} {d:Nat}
theorem Kw {i:Nat} {l:List Oper} (S:Array Bool->World->Prop) (hm:P.follows .mixedOrders=true) (hS:S (Array.replicate l.toArray.size false) w.drew)
    (h:GW P l.toArray Q S l.toArray.size (Array.replicate l.toArray.size false) n F w.drew):Wp P (.region i l.toArray true) n F w Q:=λ a ha=>
  wp_region_any hm (yh _ _ _ _ (h (Kv _) hS a ha))
def lq (ks:List Nat) (Good:World->Prop) (l:Array Bool) (w:World):Prop:=ks.any (λ k=>l.getD k false)=true\/Good w
def way (ops:Array Oper) (i:Nat):Nat->List Nat->Bool
  | k, []=>(ops[k]?).any λ o=>o.after.toList.any λ e=>Region.binds .any e && e.on==i
  | k,j::r=>((ops[k]?).any λ o=>o.after.toList.any λ e=>Region.binds .any e && e.on==j) && way ops i j r
theorem yj {i:Nat}:∀ (r:List Nat) (k:Nat),way ops i k r=true->vO ops l->l.getD k false=true->l.getD i false=true
  | [],k,h,hc,hk=>by
    obtain⟨o,ho,hall⟩:=hc k hk
    simp only [way,ho,Option.any_some,l4,Array.mem_toList_iff] at h
    obtain⟨e,he,a⟩:=h
    simp only [Bool.and_eq_true,beq_iff_eq] at a
    rw [<- a.2]; exact hall e he a.1
  | j::r,k,h,hc,hk=>by
    simp only [way,Bool.and_eq_true] at h
    obtain⟨o,ho,hall⟩:=hc k hk
    simp only [ho,Option.any_some,l4,Array.mem_toList_iff] at h
    obtain⟨⟨e,he,a⟩,b⟩:=h
    simp only [Bool.and_eq_true,beq_iff_eq] at a
    exact yj r j b hc (by rw [<- a.2]; exact hall e he a.1)
def ways (ops:Array Oper) (i:Nat):List Nat->List (List Nat)->Bool
  | [], []=>true
  | k::ks,r::rs=>way ops i k r && !(k==i) && ways ops i ks rs
  | _,_=>false
theorem qz {i:Nat}:∀ (ks:List Nat) (rs:List (List Nat)),ways ops i ks rs=true->i ∉ ks/\(vO ops l->l.getD i true=false->ks.any (λ k=>l.getD k false)=false)
  | [], [],_=>⟨by simp,λ _ _=>rfl⟩
  | k::ks,r::rs,h=>by
    simp only [ways,Bool.and_eq_true,Bool.not_eq_true',beq_eq_false_iff_ne] at h
    obtain⟨a,b⟩:=qz ks rs h.2
    refine⟨by simp only [List.mem_cons,not_or]; exact⟨λ e=>h.1.2 e.symm,a⟩,λ hc hi=> ?_⟩
    rw [List.any_cons,b hc hi,Bool.or_false,Bool.eq_false_iff]
    intro hk
    have:=yj r k h.1.1 hc hk
    rcases Nat.lt_or_ge i l.size with h' | h'
    . simp [h'] at this hi; rw [this] at hi; cases hi
    . simp [Array.getElem?_eq_none h'] at hi
theorem lq.same {ks:List Nat} {Good:World->Prop} {i:Nat} (hi:i ∉ ks) (l:Array Bool) (w:World):lq ks Good (l.setIfInBounds i true) w↔lq ks Good l w:=by
  have:ks.any (λ k=>(l.setIfInBounds i true).getD k false)=ks.any (λ k=>l.getD k false):=by
    rw [Bool.eq_iff_iff,l4,l4]
    exact exists_congr λ k=>and_congr_right λ hk=>by rw [getD_set_ne false (λ e=>hi (by rw [e]; exact hk))]
  unfold lq
  rw [this]
section
variable {ks:List Nat} {Good:World->Prop}
theorem GW.take {i:Nat} {l':Array Bool} {rs:List (List Nat)} (hi:ops[i]? =some ⟨some d,op,ty,pos,aft,none⟩) (hs:Region.noSelect ops=true) (hd:l3 d n=true)
    (hQ:bH Q) (hf:Region.free .any ops l i=true) (hr:(Region.ready .any ops l).contains i=true) (hw:ways ops i ks rs=true) (hl:l.setIfInBounds i true=l')
    (hy:∀ W,Good W->Yl P n F W op ty v) (h:GW P ops Q (lq ks Good) fuel l' n ((d,v)::F) w):GW P ops Q (lq ks Good) (fuel+1) l n F w:=λ hc hS a ha=>by
  have hn:=qz (l:=l) ks rs hw
  have hr':i ∈ Region.ready .any ops l:=by simpa using hr
  refine wpAnyS_first (v:=v) hi (Region.noSelect_spec hs) (λ c a w hq=>absurd hq (hQ c _ w)) (lq.same hn.1) fuel l a w (Region.free_spec hi hf) hr' (.inl ⟨by simp [Region.wanted],λ W hW=> ?_⟩) hc hS ?_
  . obtain⟨e,f,g,b⟩:=hW
    refine hy W ?_ a ha.toAg0 _ rfl rfl
    rcases b with b | b
    . rw [(qz (l:=e) ks rs hw).2 f g] at b; cases b
    . exact b
  . rw [hl]
    exact h (hl ▸ hc.step hr') (hl ▸ (lq.same hn.1 _ _).2 hS) _ (ha.put hd)
theorem Ky {i j t:Nat} {b b':Bool} {l':Array Bool} {rs:List (List Nat)} (hi:ops[i]? =some ⟨some d,op,ty,pos,aft,some (j,b)⟩) (hj:(ops[j]?).bind (·.dst)=some t) (hv:look F t=some (.bool b')) (hb:b'=b) (hs:Region.noSelect ops=true) (hd:l3 d n=true)
    (hQ:bH Q) (hf:Region.free .any ops l i=true) (hr:(Region.ready .any ops l).contains i=true) (hw:ways ops i ks rs=true) (hl:l.setIfInBounds i true=l')
    (hy:∀ W,Good W->Yl P n F W op ty v) (h:GW P ops Q (lq ks Good) fuel l' n ((d,v)::F) w):GW P ops Q (lq ks Good) (fuel+1) l n F w:=λ hc hS a ha=>by
  have hn:=qz (l:=l) ks rs hw
  have hr':i ∈ Region.ready .any ops l:=by simpa using hr
  refine wpAnyS_first (v:=v) hi (Region.noSelect_spec hs) (λ c a w hq=>absurd hq (hQ c _ w)) (lq.same hn.1) fuel l a w (Region.free_spec hi hf) hr' (.inl ⟨by subst hb; simp [Region.wanted,qM ha.toAg0 hj hv],λ W hW=> ?_⟩) hc hS ?_
  . obtain⟨f,g,k,e⟩:=hW
    refine hy W ?_ a ha.toAg0 _ rfl rfl
    rcases e with e | e
    . rw [(qz (l:=f) ks rs hw).2 g k] at e; cases e
    . exact e
  . rw [hl]
    exact h (hl ▸ hc.step hr') (hl ▸ (lq.same hn.1 _ _).2 hS) _ (ha.put hd)
theorem KA {i j t:Nat} {b b':Bool} {l':Array Bool} {rs:List (List Nat)} (hi:ops[i]? =some ⟨some d,op,ty,pos,aft,some (j,b)⟩) (hj:(ops[j]?).bind (·.dst)=some t) (hv:look F t=some (.bool b')) (hb:b'= !b) (hs:Region.noSelect ops=true) (hd:l3 d n=true)
    (hQ:bH Q) (hf:Region.free .any ops l i=true) (hr:(Region.ready .any ops l).contains i=true) (hw:ways ops i ks rs=true) (hl:l.setIfInBounds i true=l')
    (h:GW P ops Q (lq ks Good) fuel l' n ((d,undef)::F) w):GW P ops Q (lq ks Good) (fuel+1) l n F w:=λ hc hS a ha=>by
  have hn:=qz (l:=l) ks rs hw
  have hr':i ∈ Region.ready .any ops l:=by simpa using hr
  refine wpAnyS_first (v:=undef) hi (Region.noSelect_spec hs) (λ c a w hq=>absurd hq (hQ c _ w)) (lq.same hn.1) fuel l a w (Region.free_spec hi hf) hr' (.inr ⟨by subst hb; simp [Region.wanted,qM ha.toAg0 hj hv],rfl⟩) hc hS ?_
  rw [hl]
  exact h (hl ▸ hc.step hr') (hl ▸ (lq.same hn.1 _ _).2 hS) _ (ha.put hd)
theorem Kl {i j t:Nat} {b:Bool} {l':Array Bool} {rs:List (List Nat)} (hi:ops[i]? =some ⟨some d,op,ty,pos,aft,some (j,b)⟩) (hj:(ops[j]?).bind (·.dst)=some t) (hv:look F t=some undef) (hs:Region.noSelect ops=true) (hd:l3 d n=true)
    (hQ:bH Q) (hf:Region.free .any ops l i=true) (hr:(Region.ready .any ops l).contains i=true) (hw:ways ops i ks rs=true) (hl:l.setIfInBounds i true=l')
    (h:GW P ops Q (lq ks Good) fuel l' n ((d,undef)::F) w):GW P ops Q (lq ks Good) (fuel+1) l n F w:=λ hc hS a ha=>by
  have hn:=qz (l:=l) ks rs hw
  have hr':i ∈ Region.ready .any ops l:=by simpa using hr
  refine wpAnyS_first (v:=undef) hi (Region.noSelect_spec hs) (λ c a w hq=>absurd hq (hQ c _ w)) (lq.same hn.1) fuel l a w (Region.free_spec hi hf) hr' (.inr ⟨by simp [Region.wanted,vN ha.toAg0 hj hv],rfl⟩) hc hS ?_
  rw [hl]
  exact h (hl ▸ hc.step hr') (hl ▸ (lq.same hn.1 _ _).2 hS) _ (ha.put hd)
theorem Cy {i:Nat} (h:ks.contains i=false):i ∉ ks:=λ hm=>by rw [List.contains_iff_mem.2 hm] at h; cases h
theorem KC {i:Nat} {l':Array Bool} (hi:ops[i]? =some ⟨some d,op,ty,pos,aft,none⟩) (hs:Region.noSelect ops=true) (hd:l3 d n=true)
    (hQ:bH Q) (hf:Region.free .any ops l i=true) (hr:(Region.ready .any ops l).contains i=true) (hw:ks.contains i=false) (hl:l.setIfInBounds i true=l')
    (hy:∀ W,Yl P n F W op ty v) (h:GW P ops Q (lq ks Good) fuel l' n ((d,v)::F) w):GW P ops Q (lq ks Good) (fuel+1) l n F w:=λ hc hS a ha=>by
  have hn:=Cy hw
  have hr':i ∈ Region.ready .any ops l:=by simpa using hr
  refine wpAnyS_first (v:=v) hi (Region.noSelect_spec hs) (λ c a w hq=>absurd hq (hQ c _ w)) (lq.same hn) fuel l a w (Region.free_spec hi hf) hr' (.inl ⟨by simp [Region.wanted],λ W hW=>hy W a ha.toAg0 _ rfl rfl⟩) hc hS ?_
  rw [hl]
  exact h (hl ▸ hc.step hr') (hl ▸ (lq.same hn _ _).2 hS) _ (ha.put hd)
end
theorem xy {S':Array Bool->World->Prop} (hle:∀ l w,S' l w->S l w):∀ (fuel:Nat) (l:Array Bool) (a:Act) (w:World),wpAnyS P ops Q S' fuel l a w->wpAnyS P ops Q S fuel l a w
  | 0,_,_,_,h=>h
  | fuel+1,_,_,_,h=>⟨h.1,λ i hi=>wpOp_mono (λ a' w' h'=>⟨hle _ _ h'.1,xy hle fuel _ a' w' h'.2⟩) (h.2 i hi)⟩
theorem KH {ks:List Nat} {Good Good':World->Prop} (hle:∀ W,Good' W->Good W) (b:Good' w) (h:GW P ops Q (lq ks Good') fuel l n F w):GW P ops Q (lq ks Good) fuel l n F w:=λ hc _ a ha=>
  xy (S':=lq ks Good') (λ _ _ hs=>hs.imp id (hle _)) fuel l a w (h hc (.inr b) a ha)
theorem GW.do {i:Nat} {l':Array Bool} (hi:ops[i]? =some ⟨some d,op,ty,pos,aft,none⟩) (hd:l3 d n=true) (hr:Region.ready .any ops l= [i]) (hl:l.setIfInBounds i true=l')
    (h:Do P n F w op ty λ v w'=>S l' w'/\GW P ops Q S fuel l' n ((d,v)::F) w'):GW P ops Q S (fuel+1) l n F w:=λ hc hS a ha=>by
  refine⟨λ b=>(by rw [hr] at b; cases b),λ j hj=> ?_⟩
  have hcj:=hc.step hj
  rw [hr,m2] at hj
  subst hj
  unfold wpOp
  rw [hl] at hcj ⊢
  simp only [hi]
  rw [if_pos (by simp [Region.wanted])]
  exact .inl (h a ha.toAg0 _ rfl rfl _ _ λ v w' k=>⟨k.1,k.2 hcj k.1 _ (ha.put hd)⟩)
theorem KN {i:Nat} {l':Array Bool} (hi:ops[i]? =some ⟨none,op,ty,pos,aft,none⟩) (hr:Region.ready .any ops l= [i]) (hl:l.setIfInBounds i true=l')
    (h:Do P n F w op ty λ _ w'=>S l' w'/\GW P ops Q S fuel l' n F w'):GW P ops Q S (fuel+1) l n F w:=λ hc hS a ha=>by
  refine⟨λ b=>(by rw [hr] at b; cases b),λ j hj=> ?_⟩
  have hcj:=hc.step hj
  rw [hr,m2] at hj
  subst hj
  unfold wpOp
  rw [hl] at hcj ⊢
  simp only [hi]
  rw [if_pos (by simp [Region.wanted])]
  exact .inl (h a ha.toAg0 _ rfl rfl _ _ λ v w' k=>⟨k.1,k.2 hcj k.1 _ (ha.put0 v)⟩)
def GO (P:Program) (ops:Array Oper) (Q:Exit->Act->World->Prop) (S:Array Bool->World->Prop) (fuel:Nat) (l:Array Bool) (n:Nat) (F:List (Nat × Value)) (w:World) (i:Nat):Prop:=
  vO ops l->i ∈ Region.ready .any ops l->S l w->∀ a,Ag n F a->wpOp P ops Q i (λ a' w'=>S (l.setIfInBounds i true) w'/\wpAnyS P ops Q S fuel (l.setIfInBounds i true) a' w') a w
theorem GW.any {rs:List Nat} (hr:Region.ready .any ops l=rs) (hne:rs.isEmpty=false) (h:∀ i ∈ rs,GO P ops Q S fuel l n F w i):GW P ops Q S (fuel+1) l n F w:=λ hc hS a ha=>
  ⟨λ b=>(by rw [hr] at b; subst b; cases hne),λ j hj=>h j (hr ▸ hj) hc hj hS a ha⟩
theorem GO.do {i:Nat} {l':Array Bool} (hi:ops[i]? =some ⟨some d,op,ty,pos,aft,none⟩) (hd:l3 d n=true) (hl:l.setIfInBounds i true=l')
    (h:Do P n F w op ty λ v w'=>S l' w'/\GW P ops Q S fuel l' n ((d,v)::F) w'):GO P ops Q S fuel l n F w i:=λ hc hj hS a ha=>by
  have hcj:=hc.step hj
  unfold wpOp
  rw [hl] at hcj ⊢
  simp only [hi]
  rw [if_pos (by simp [Region.wanted])]
  exact .inl (h a ha.toAg0 _ rfl rfl _ _ λ v w' k=>⟨k.1,k.2 hcj k.1 _ (ha.put hd)⟩)
theorem KO {i:Nat} {l':Array Bool} (hi:ops[i]? =some ⟨none,op,ty,pos,aft,none⟩) (hl:l.setIfInBounds i true=l')
    (h:Do P n F w op ty λ _ w'=>S l' w'/\GW P ops Q S fuel l' n F w'):GO P ops Q S fuel l n F w i:=λ hc hj hS a ha=>by
  have hcj:=hc.step hj
  unfold wpOp
  rw [hl] at hcj ⊢
  simp only [hi]
  rw [if_pos (by simp [Region.wanted])]
  exact .inl (h a ha.toAg0 _ rfl rfl _ _ λ v w' k=>⟨k.1,k.2 hcj k.1 _ (ha.put0 v)⟩)
theorem KI (hr:Region.ready .any ops l= []) (h:Fin Q .normal n F w):GW P ops Q S fuel l n F w:=λ _ _ a ha=>by
  cases fuel with
  | zero=>exact⟨hr,h a ha⟩
  | succ k=>exact⟨λ _=>h a ha,by rw [hr]; simp⟩
end game
section ops
variable {P:Program} {n:Nat} {F:List (Nat × Value)} {w:World} {op:Op} {ty:TypeId} {v:Value} {K:Value->World->Prop}
def og (F:List (Nat × Value)) (x:Operand):Value:=(ev F x).getD undef
def known (F:List (Nat × Value)):List Operand->Bool
  | []=>true
  | x::r=>(ev F x).isSome && known F r
theorem tu {a:Act} (ha:Ag0 n F a):∀ {xs:List Operand},known F xs=true->∀ x ∈ xs,a.eval x=og F x
  | [],_,_,hx=>by cases hx
  | y::r,h,x,hx=>by
    simp only [known,Bool.and_eq_true] at h
    rcases List.mem_cons.1 hx with rfl | hx
    . obtain⟨v,hv⟩:=Option.isSome_iff_exists.1 h.1
      rw [ha.eval hv,og,hv]; rfl
    . exact tu ha h.2 x hx
def pI:Op->Bool
  | .select _ _=>false
  | _=>true
theorem uU (h:pI op=true):∀ cs b,op≠ .select cs b:=λ cs b e=>by subst e; cases h
theorem JA (hk:known F op.operands.toList=true) (b:pI op=true) (h:∀ W,(execOp (og F) ⟨none,op,ty, "", #[],none⟩).run P W= .ok (.value v) W):Yl P n F w op ty v:=λ a ha o c f=>by
  have hs:=uU b
  have e:execOp a.eval o=execOp (og F) o:=execOp_congr o (by rw [c]; exact hs) λ x hx=>tu ha hk x (by rw [c] at hx; simpa using hx)
  have g:execOp (og F) o=execOp (og F) ⟨none,op,ty, "", #[],none⟩:=by
    unfold execOp
    rw [c,f]
  rw [e,g]; exact h w
theorem Ie {x:Operand} (hx:ev F x=some v):Yl P n F w (.move x) ty v:=λ a ha o b _=>by
  unfold execOp; rw [b]; simp [ha.eval hx]
theorem Jc {x:Operand} (hx:ev F x=some v):Yl P n F w (.assign x) ty v:=λ a ha o b _=>by
  unfold execOp; rw [b]; simp [ha.eval hx]
theorem Ig {k:IntKind} {e e':Int} (h:Yl P n F w op ty (.int k e)) (he:e=e'):Yl P n F w op ty (.int k e'):=by rw [<- he]; exact h
theorem Iu {e e':Bool} (h:Yl P n F w op ty (.bool e)) (he:e=e'):Yl P n F w op ty (.bool e'):=by rw [<- he]; exact h
theorem Yl.to {v':Value} (h:Yl P n F w op ty v) (he:v=v'):Yl P n F w op ty v':=by rw [<- he]; exact h
theorem Ic {c x y:Operand} {b:Bool} (hc:ev F c=some (.bool b)) (hb:b=true) (hx:ev F x=some v):Yl P n F w (.pick c x y) ty v:=λ a ha o e _=>by
  subst hb
  unfold execOp
  rw [e]
  simp [ha.eval hc,asBool,ha.eval hx]
theorem H6 {c x y:Operand} {b:Bool} (hc:ev F c=some (.bool b)) (hb:b=false) (hy:ev F y=some v):Yl P n F w (.pick c x y) ty v:=λ a ha o e _=>by
  subst hb
  unfold execOp
  rw [e]
  simp [ha.eval hc,asBool,ha.eval hy]
theorem KP {S:Array Bool->World->Prop} {ops:Array Oper} {Q:Exit->Act->World->Prop} {fuel:Nat} {l:Array Bool} {pos:String} {aft:Array Edge} {d i j t:Nat} {b b':Bool} {l':Array Bool} (hi:ops[i]? =some ⟨some d,op,ty,pos,aft,some (j,b)⟩) (hj:(ops[j]?).bind (·.dst)=some t) (hv:look F t=some (.bool b')) (hb:b'=b) (hd:l3 d n=true) (hr:Region.ready .any ops l= [i]) (hl:l.setIfInBounds i true=l')
    (h:Do P n F w op ty λ v w'=>S l' w'/\GW P ops Q S fuel l' n ((d,v)::F) w'):GW P ops Q S (fuel+1) l n F w:=λ hc hS a ha=>by
  refine⟨λ c=>(by rw [hr] at c; cases c),λ j hj'=> ?_⟩
  have hcj:=hc.step hj'
  rw [hr,m2] at hj'
  subst hj'
  unfold wpOp
  rw [hl] at hcj ⊢
  simp only [hi]
  rw [if_pos (by subst hb; simp [Region.wanted,qM ha.toAg0 hj hv])]
  exact .inl (h a ha.toAg0 _ rfl rfl _ _ λ v w' k=>⟨k.1,k.2 hcj k.1 _ (ha.put hd)⟩)
end ops
end
section
open Go.RowKit
@[reducible] def HP:Type:=(Nat->Option Obj)->Prop
def j4 (L:List HP) (h:Nat->Option Obj):Prop:=
  ∃ f:Nat->Nat->Option Obj,(∀ (i:Nat) (R:HP),L[i]? =some R->R (f i))/\(∀ i k o,f i k=some o->h k=some o)/\(∀ i j k,i≠j->f i k=none\/f j k=none)
structure Own (w0:World) (D:Nat->Prop) (w:World) (L:List HP):Prop where
  os:w.os=w0.os
  tape:w.tape=w0.tape
  output:w.output=w0.output
  size:w0.heap.size<=w.heap.size
  keep:∀ k,k < w0.heap.size->¬ D k->w.heap[k]? =w0.heap[k]?
  own:∃ h:Nat->Option Obj,(∀ k o,h k=some o->w.heap[k]? =some o/\(D k\/w0.heap.size<=k))/\j4 L h
def Ro (w0:World) (D:Nat->Prop) (φ:World->Prop):Prop:=∀ w:World,(∀ k,k < w0.heap.size->¬ D k->w.heap[k]? =w0.heap[k]?)->φ w
theorem wY {w:World} {k:Nat} {o:Obj} (h:w.heap[k]? =some o):k < w.heap.size:=(Array.getElem?_eq_some_iff.1 h).1
section
variable {w0 w w':World} {D:Nat->Prop} {L L1 L2:List HP} {R R':HP}
theorem Km (w:World):Own w (λ _=>False) w []:=⟨rfl,rfl,rfl,Nat.le_refl _,λ _ _ _=>rfl,λ _=>none,λ _ _ h=>(by cases h),λ _ _=>none,λ i R h=>(by simp at h),λ _ _ _ h=>(by cases h),λ _ _ _ _=> .inl rfl⟩
theorem Own.below (H:Own w0 (λ _=>False) w L):Below w0.heap.size w0 w:=⟨H.os,H.tape,H.output,H.size,λ k hk=>H.keep k hk (λ h=>h)⟩
theorem Own.ro {φ:World->Prop} (H:Own w0 D w L) (h:Ro w0 D φ):φ w:=h w H.keep
theorem Own.drew (H:Own w0 D w L):Own w0 D w.drew L:=⟨H.os,H.tape,H.output,H.size,H.keep,H.own⟩
theorem Own.get {i:Nat} (H:Own w0 D w L) (hi:L[i]? =some R):∃ h,R h/\∀ k o,h k=some o->w.heap[k]? =some o:=by
  obtain⟨h,a,f,b,d,e⟩:=H.own
  exact⟨f i,b i R hi,λ k o hk=>(a k o (d i k o hk)).1⟩
def pk (L:List HP):List Nat->Option (List HP)
  | []=>some []
  | i::r=>match L[i]?,pk L r with
    | some R,some s=>some (R::s)
    | _,_=>none
theorem EN:∀ (idx:List Nat) (L':List HP),pk L idx=some L'->∀ (j:Nat) (R:HP),L'[j]? =some R->∃ i:Nat,idx[j]? =some i/\L[i]? =some R
  | [],L',h,j,R,hj=>by simp [pk] at h; subst h; simp at hj
  | i::r,L',h,j,R,hj=>by
    unfold pk at h
    split at h
    . rename_i d s a b
      simp only [Option.some.injEq] at h
      subst h
      cases j with
      | zero=>simp only [List.getElem?_cons_zero,Option.some.injEq] at hj; subst hj; exact⟨i,rfl,a⟩
      | succ j=>exact EN r s b j R hj
    . cases h
theorem j4.pick {h:Nat->Option Obj} {L':List HP} (idx:List Nat) (hn:idx.Nodup) (hp:pk L idx=some L') (H:j4 L h):j4 L' h:=by
  obtain⟨f,m,p,q⟩:=H
  refine⟨λ j=>match idx[j]? with | some i=>f i | none=>λ _=>none,λ j R hj=> ?_,λ j k o hk=> ?_,λ j j' k hne=> ?_⟩
  . obtain⟨i,hi,hR⟩:=EN idx L' hp j R hj
    simp only [hi]; exact m i R hR
  . cases hi:idx[j]? with
    | none=>simp [hi] at hk
    | some i=>simp only [hi] at hk; exact p i k o hk
  . cases hi:idx[j]? with
    | none=>exact .inl (by simp [hi])
    | some i=>
      cases hi':idx[j']? with
      | none=>exact .inr (by simp [hi'])
      | some i'=>
        simp only [hi,hi']
        refine q i i' k λ e=>hne ?_
        subst e
        obtain⟨a,b⟩:=List.getElem?_eq_some_iff.1 hi
        obtain⟨d,l⟩:=List.getElem?_eq_some_iff.1 hi'
        have hp:=List.pairwise_iff_getElem.1 hn
        rcases Nat.lt_trichotomy j j' with e | e | e
        . exact absurd (b.trans l.symm) (hp j j' a d e)
        . exact e
        . exact absurd (l.trans b.symm) (hp j' j d a e)
theorem Own.pick {L':List HP} (H:Own w0 D w L) (idx:List Nat) (hn:idx.Nodup) (hp:pk L idx=some L'):Own w0 D w L':=
  let ⟨h,a,b⟩:=H.own
  ⟨H.os,H.tape,H.output,H.size,H.keep,h,a,b.pick idx hn hp⟩
open Classical in
theorem Own.enter (H:Own w0 D w (L1++L2)):∃ a:Nat->Prop,Own w a w L1/\(∀ φ,Ro w0 D φ->Ro w a φ)/\(∀ w' L',Own w a w' L'->Own w0 D w' (L'++L2))/\
    (∀ (φ:World->Prop) (i:Nat) (R:HP),L2[i]? =some R->(∀ w' h,R h->(∀ k o,h k=some o->w'.heap[k]? =some o)->φ w')->Ro w a φ):=by
  obtain⟨h,l,f,q,m,r⟩:=H.own
  let a:Nat->Prop:=λ k=> ∃ i,i < L1.length/\f i k≠none
  have b:∀ k,a k->D k\/w0.heap.size<=k:=λ k ⟨i,_,hk⟩=>by
    cases hf:f i k with
    | none=>exact absurd hf hk
    | some o=>exact(l k o (m i k o hf)).2
  have hfr:∀ j k o,f (L1.length+j) k=some o->¬ a k:=λ j k o hk ⟨i,hi,hik⟩=>by
    rcases r i (L1.length+j) k e8 with e | e
    . exact hik e
    . rw [hk] at e; cases e
  refine⟨a,⟨rfl,rfl,rfl,Nat.le_refl _,λ _ _ _=>rfl,λ k=>if a k then h k else none,λ k o hk=> ?_,λ i=>if i < L1.length then f i else λ _=>none,λ i R hi=> ?_,λ i k o hk=> ?_,λ i j k hne=> ?_⟩,λ φ hφ W hW=> ?_,λ w' L' H'=> ?_,λ φ i R hR hφ W hW=> ?_⟩
  . dsimp only at hk
    by_cases hd:a k
    . rw [if_pos hd] at hk; exact⟨(l k o hk).1, .inl hd⟩
    . rw [if_neg hd] at hk; cases hk
  . have hlt:=(List.getElem?_eq_some_iff.1 hi).1
    dsimp only
    rw [if_pos hlt]
    exact q i R (by rw [List.getElem?_append_left hlt]; exact hi)
  . dsimp only at hk ⊢
    by_cases hlt:i < L1.length
    . rw [if_pos hlt] at hk
      rw [if_pos (show a k from ⟨i,hlt,by rw [hk]; exact Option.some_ne_none _⟩)]
      exact m i k o hk
    . rw [if_neg hlt] at hk; cases hk
  . dsimp only
    by_cases hlt:i < L1.length
    . by_cases hlt':j < L1.length
      . rw [if_pos hlt,if_pos hlt']; exact r i j k hne
      . exact .inr (by rw [if_neg hlt'])
    . exact .inl (by rw [if_neg hlt])
  . refine hφ W λ k hk hd=> ?_
    have d: ¬ a k:=λ e=>by
      rcases b k e with e | e
      . exact hd e
      . omega
    rw [hW k (Nat.lt_of_lt_of_le hk H.size) d,H.keep k hk hd]
  . obtain⟨h',s,f',y,x,z⟩:=H'.own
    have hdis:∀ j k o,f (L1.length+j) k=some o->∀ i,f' i k=none:=λ j k o hk i=>by
      cases hi:f' i k with
      | none=>rfl
      | some o'=>
        rcases (s k o' (x i k o' hi)).2 with e | e
        . exact absurd e (hfr j k o hk)
        . have:=wY (l k o (m _ k o hk)).1; omega
    have hdis':∀ j k o,f (L1.length+j) k=some o->h' k=none:=λ j k o hk=>by
      cases hi:h' k with
      | none=>rfl
      | some o'=>
        rcases (s k o' hi).2 with e | e
        . exact absurd e (hfr j k o hk)
        . have:=wY (l k o (m _ k o hk)).1; omega
    refine⟨H'.os.trans H.os,H'.tape.trans H.tape,H'.output.trans H.output,Nat.le_trans H.size H'.size,λ k hk hd=> ?_,λ k=>match h' k with | some o=>some o | none=>if ∃ j,f (L1.length+j) k≠none then h k else none,λ k o hk=> ?_,λ i=>if i < L'.length then f' i else f (L1.length+(i - L'.length)),λ i R hi=> ?_,λ i k o hk=> ?_,λ i j k hne=> ?_⟩
    . have d: ¬ a k:=λ e=>by
        rcases b k e with e | e
        . exact hd e
        . omega
      rw [H'.keep k (Nat.lt_of_lt_of_le hk H.size) d,H.keep k hk hd]
    . dsimp only at hk
      cases hh:h' k with
      | some o'=>
        simp only [hh,Option.some.injEq] at hk
        subst hk
        obtain⟨p,u⟩:=s k o' hh
        refine⟨p, ?_⟩
        rcases u with e | e
        . exact b k e
        . exact .inr (Nat.le_trans H.size e)
      | none=>
        simp only [hh] at hk
        by_cases he:∃ j,f (L1.length+j) k≠none
        . rw [if_pos he] at hk
          obtain⟨j,hj⟩:=he
          obtain⟨o',ho'⟩:=Option.ne_none_iff_exists'.1 hj
          obtain⟨p,u⟩:=l k o hk
          exact⟨by rw [H'.keep k (wY p) (hfr j k o' ho')]; exact p,u⟩
        . rw [if_neg he] at hk; cases hk
    . dsimp only
      by_cases hlt:i < L'.length
      . rw [if_pos hlt]; rw [List.getElem?_append_left hlt] at hi; exact y i R hi
      . rw [if_neg hlt]
        rw [List.getElem?_append_right e8] at hi
        exact q _ R (by rw [List.getElem?_append_right e8,Nat.add_sub_cancel_left]; exact hi)
    . dsimp only at hk ⊢
      by_cases hlt:i < L'.length
      . rw [if_pos hlt] at hk
        have:=x i k o hk
        simp only [this]
      . rw [if_neg hlt] at hk
        simp only [hdis' _ k o hk]
        rw [if_pos ⟨_,by rw [hk]; exact Option.some_ne_none _⟩]
        exact m _ k o hk
    . dsimp only
      by_cases hi:i < L'.length
      . by_cases hj:j < L'.length
        . rw [if_pos hi,if_pos hj]; exact z i j k hne
        . rw [if_pos hi,if_neg hj]
          cases hk:f (L1.length+(j - L'.length)) k with
          | none=>exact .inr rfl
          | some o=>exact .inl (hdis _ k o hk i)
      . by_cases hj:j < L'.length
        . rw [if_neg hi,if_pos hj]
          cases hk:f (L1.length+(i - L'.length)) k with
          | none=>exact .inl rfl
          | some o=>exact .inr (hdis _ k o hk j)
        . rw [if_neg hi,if_neg hj]; exact r _ _ k e8
  . refine hφ W (f (L1.length+i)) (q _ R (by rw [List.getElem?_append_right e8,Nat.add_sub_cancel_left]; exact hR)) λ k o hk=> ?_
    have:=(l k o (m _ k o hk)).1
    rw [hW k (wY this) (hfr i k o hk)]; exact this
theorem Own.upd (H:Own w0 D w (R::L)) (hos:w'.os=w.os) (htape:w'.tape=w.tape) (hout:w'.output=w.output) (hsz:w.heap.size<=w'.heap.size)
    (hu:∀ a,R a->(∀ k o,a k=some o->w.heap[k]? =some o)->∃ b,R' b/\(∀ k o,b k=some o->w'.heap[k]? =some o/\(a k≠none\/w.heap.size<=k))/\∀ k,k < w.heap.size->a k=none->w'.heap[k]? =w.heap[k]?):Own w0 D w' (R'::L):=by
  obtain⟨m,HE,_,hb,_⟩:=Own.enter (L1:= [R]) (L2:=L) H
  obtain⟨h,a,f,p,d,s⟩:=HE.own
  obtain⟨b,q,l,r⟩:=hu (f 0) (p 0 R rfl) λ k o hk=>(a k o (d 0 k o hk)).1
  have hD:∀ k,f 0 k≠none->m k\/w.heap.size<=k:=λ k hk=>by
    obtain⟨o,ho⟩:=Option.ne_none_iff_exists'.1 hk
    exact(a k o (d 0 k o ho)).2
  refine hb w' [R'] ⟨hos,htape,hout,hsz,λ k hk hd=>r k hk ?_,b,λ k o hk=>⟨(l k o hk).1, ?_⟩,λ i=>if i=0 then b else λ _=>none,λ i S hi=> ?_,λ i k o hk=> ?_,λ i j k hne=> ?_⟩
  . cases e:f 0 k with
    | none=>rfl
    | some o=>
      rcases hD k (by rw [e]; exact Option.some_ne_none _) with e | e
      . exact absurd e hd
      . omega
  . rcases (l k o hk).2 with e | e
    . exact hD k e
    . exact .inr e
  . cases i with
    | zero=>simp only [List.getElem?_cons_zero,Option.some.injEq] at hi; subst hi; exact q
    | succ i=>simp at hi
  . by_cases e:i=0
    . simp only [e,if_true] at hk; exact hk
    . simp only [e,if_false] at hk; cases hk
  . by_cases e:i=0
    . by_cases e':j=0
      . omega
      . exact .inr (by simp [e'])
    . exact .inl (by simp [e])
theorem Own.cons {R:HP} (H:Own w0 D w L) (hos:w'.os=w.os) (htape:w'.tape=w.tape) (hout:w'.output=w.output) (hsz:w.heap.size<=w'.heap.size) (hk:∀ k,k < w.heap.size->w'.heap[k]? =w.heap[k]?)
    (a:Nat->Option Obj) (hR:R a) (hh:∀ k o,a k=some o->w'.heap[k]? =some o/\w.heap.size<=k):Own w0 D w' (R::L):=by
  obtain⟨b,HE,_,hb,_⟩:=Own.enter (L1:= []) (L2:=L) H
  refine hb w' [R] ⟨hos,htape,hout,hsz,λ k h _=>hk k h,a,λ k o h=>⟨(hh k o h).1, .inr (hh k o h).2⟩,λ i=>if i=0 then a else λ _=>none,λ i S hi=> ?_,λ i k o hk=> ?_,λ i j k hne=> ?_⟩
  . cases i with
    | zero=>simp only [List.getElem?_cons_zero,Option.some.injEq] at hi; subst hi; exact hR
    | succ i=>simp at hi
  . by_cases e:i=0
    . simp only [e,if_true] at hk; exact hk
    . simp only [e,if_false] at hk; cases hk
  . by_cases e:i=0
    . by_cases e':j=0
      . omega
      . exact .inr (by simp [e'])
    . exact .inl (by simp [e])
theorem Own.alloc (H:Own w0 D w L) (o:Obj) (hR:R (λ k=>if k=w.heap.size then some o else none)):Own w0 D (w.alloc o) (R::L):=by
  refine H.cons rfl rfl rfl i3 (λ k hk=>Below.heap_alloc w o k hk) _ hR λ k o' hk=> ?_
  by_cases e:k=w.heap.size
  . simp only [e,if_true,Option.some.injEq] at hk ⊢
    subst hk
    exact⟨heap_alloc_new w _,Nat.le_refl _⟩
  . simp only [e,if_false] at hk; cases hk
theorem Own.free {R:HP} (H:Own w0 D w L) (hR:R λ _=>none):Own w0 D w (R::L):=
  H.cons rfl rfl rfl (Nat.le_refl _) (λ _ _=>rfl) _ hR λ k o hk=>by cases hk
theorem Own.imp (H:Own w0 D w (R::L)) (h:∀ a,R a->R' a):Own w0 D w (R'::L):=
  H.upd rfl rfl rfl (Nat.le_refl _) λ a hr hs=>⟨a,h a hr,λ k o hk=>⟨hs k o hk, .inl (by rw [hk]; exact Option.some_ne_none _)⟩,λ _ _ _=>rfl⟩
end
end
open List renaming getElem?_drop->m4,getElem?_take->m3,length_append->o0,length_drop->m9,length_take->m8,size_toArray->o1
open Nat renaming mul_le_mul_right->m7,zero_add->m6
section
open Go.RowKit
theorem add0 (b off j:Nat):(⟨b,off,none⟩:Addr).add j=⟨b,off+j,none⟩:=by
  unfold Addr.add
  split
  . rename_i h; subst h; simp
  . rfl
def ab:Option Addr->Nat
  | some a=>a.block
  | none=>0
def ao:Option Addr->Nat
  | some a=>a.off
  | none=>0
def iM (w:World) (g o:Nat) (cs:List Value):Prop:=∀ (j:Nat) (u:Value),cs[j]? =some u->w.cell? ⟨g,o+j,none⟩=some u
def bO (w:World) (sz:Nat) (A:Option Addr) (n:Nat) (xs:List Value):Prop:=xs.length=n *sz/\(0 < n->A=some ⟨ab A,ao A,none⟩/\iM w (ab A) (ao A) xs)
def wm (fz:Nat × Nat) (n:Nat):Prop:=fz.1=fz.2\/n<=fz.1
theorem wm.no {fz:Nat × Nat} {n:Nat} (h:wm fz n):∀ j,j < n->¬ (fz.1<=j/\j < fz.2):=λ j hj hh=>by
  rcases h with h | h <;> omega
theorem wm.zero (n:Nat):wm (0,0) n:= .inl rfl
def blk (g:Nat) (cs:List Value) (t:TypeId):HP:=λ h=> ∃ fz:Nat × Nat,h g=some (.cells cs.toArray t fz)/\wm fz cs.length
def row (A:Option Addr) (n c:Nat) (xs:List Value) (t:TypeId) (sz:Nat):HP:=λ h=>xs.length=n *sz/\
  ((A=none/\n=0/\c=0)\/∃ (g:Nat) (cur:Array Value) (fz:Nat × Nat),A=some ⟨g,0,none⟩/\h g=some (.cells cur t fz)/\n<=c/\c<=maxLen/\cur.size=c *sz/\cur.toList.take (n *sz)=xs/\wm fz cur.size)
section
variable {P:Program} {w0 w:World} {D:Nat->Prop} {L:List HP} {g o n c sz:Nat} {A:Option Addr} {cs xs:List Value} {t T:TypeId} {v:Value}
theorem iM.sub {k:Nat} {cs':List Value} (h:iM w g o cs) (hs:∀ (j:Nat) u,cs'[j]? =some u->cs[k+j]? =some u):iM w g (o+k) cs':=λ j u hj=>by
  rw [Nat.add_assoc]; exact h _ _ (hs j u hj)
theorem iM.lit {k m:Nat} {cs':List Value} (h:iM w g o cs) (hs:(cs.drop k).take m=cs'):iM w g (o+k) cs':=h.sub λ j u hj=>by
  subst hs
  rw [m3] at hj
  split at hj
  . rw [m4] at hj; exact hj
  . cases hj
theorem iM.at_ {k:Nat} (h:iM w g o cs) (hk:cs[k]? =some v):w.cell? ⟨g,o+k,none⟩=some v:=h k v hk
theorem IU (h:iM w g 0 cs) (hk:cs[o]? =some v):w.cell? ⟨g,o,none⟩=some v:=by have:=h o v hk; rwa [m6] at this
theorem Own.cls {i:Nat} (H:Own w0 D w L) (hi:L[i]? =some (blk g cs t)):iM w g 0 cs:=by
  obtain⟨h,⟨fz,a,_⟩,b⟩:=H.get hi
  intro j u hj
  have hg:=b g _ a
  rw [cell_of_row w g (0+j) _ t fz hg,m6,List.getElem?_toArray]
  exact hj
theorem Own.rds {i:Nat} (H:Own w0 D w L) (hi:L[i]? =some (row A n c xs t sz)):bO w sz A n xs:=by
  obtain⟨h,⟨hl,hr⟩,a⟩:=H.get hi
  refine⟨hl,λ hn=> ?_⟩
  rcases hr with ⟨_,d,_⟩ | ⟨g,cur,fz,rfl,b,_,_,_,htk,_⟩
  . omega
  . refine⟨rfl,λ j u hj=> ?_⟩
    have hg:=a g _ b
    show w.cell? ⟨g,0+j,none⟩=some u
    rw [cell_of_row w g (0+j) _ t fz hg,m6, <- Array.getElem?_toList]
    rw [<- htk,m3] at hj
    split at hj
    . exact hj
    . cases hj
theorem Own.rowLe {i:Nat} (H:Own w0 D w L) (hi:L[i]? =some (row A n c xs t sz)):n<=c/\c<=maxLen/\xs.length=n *sz:=by
  obtain⟨h,⟨hl,hr⟩,_⟩:=H.get hi
  rcases hr with ⟨_,d,a⟩ | ⟨g,cur,fz,_,_,a,b,_⟩
  . exact⟨e8,e8,hl⟩
  . exact⟨a,b,hl⟩
theorem bO.nil (w:World) (sz:Nat) (A:Option Addr):bO w sz A 0 []:=⟨by simp,λ h=>absurd h (Nat.lt_irrefl 0)⟩
theorem bO.cls (h:bO w sz A n xs) (hn:0 < n):iM w (ab A) (ao A) xs:=(h.2 hn).2
theorem bO.isSome (h:bO w sz A n xs) (hn:0 < n):A=some ⟨ab A,ao A,none⟩:=(h.2 hn).1
theorem bO.cell {j:Nat} (h:bO w sz A n xs) (hj:xs[j]? =some v):w.cell? ⟨ab A,ao A+j,none⟩=some v:=by
  have hl:=(List.getElem?_eq_some_iff.1 hj).1
  have hn:0 < n:=by
    rcases Nat.eq_zero_or_pos n with e | e
    . rw [h.1,e,Nat.zero_mul] at hl; omega
    . exact e
  exact h.cls hn j v hj
theorem bO.ro (h:bO w sz A n xs) (hz:0 < sz):Ro w (λ _=>False) λ w=>bO w sz A n xs:=λ W hW=>by
  refine⟨h.1,λ hn=>⟨h.isSome hn,λ j u hj=> ?_⟩⟩
  have hc:=h.cls hn j u hj
  rw [World.cell?_of_block (w:=w) (hW _ (World.block_lt_of_cell? w _ hc) (λ e=>e))]
  exact hc
theorem bO.sub {k m:Nat} {A':Option Addr} (h:bO w sz A n xs) (hk:k+m<=n) (hA:0 < m->A'=some ⟨ab A,ao A+k *sz,none⟩):bO w sz A' m ((xs.drop (k *sz)).take (m *sz)):=by
  have e:k *sz+m *sz<=n *sz:=by rw [<- Nat.add_mul]; exact m7 _ hk
  have hl:=h.1
  refine⟨by simp only [m8,m9]; omega,λ hm=> ?_⟩
  rw [hA hm]
  exact⟨rfl,(h.cls e8).sub λ j u hj=>by
    rw [m3] at hj
    split at hj
    . rw [m4] at hj; exact hj
    . cases hj⟩
theorem bQ.one {p:Addr} (hT:∀ W,(isAgg T).run P W= .ok false W) (h:w.cell? p=some v):bQ P w T p v:=by
  unfold bQ loadVar
  simp [hT w,h,Result.andThen]
theorem Io (hT:∀ W,(isAgg T).run P W= .ok true W) (hS:∀ W,(sizeOf T).run P W= .ok cs.length W) (h:iM w g o cs):bQ P w T ⟨g,o,none⟩ (.agg cs.toArray):=by
  unfold bQ loadVar
  have hl:=run_loadCells_list (P:=P) w ⟨g,o,none⟩ cs λ j u hj=>by rw [add0]; exact h j u hj
  simp [hT w,hS w,Result.andThen,hl]
theorem nJ (g o:Nat) (t:TypeId) (fz:Nat × Nat):∀ (vs:List Value) (i:Nat) (cur:Array Value) (w:World),w.heap[g]? =some (.cells cur t fz)->o+i+vs.length<=cur.size->(∀ j,j < cur.size->¬ (fz.1<=j/\j < fz.2))->(∀ v ∈ vs,v.oneCell'=true)->
    (storeCells ⟨g,o,none⟩ vs i).run P w= .ok () (w.setRow g (cur.toList.take (o+i)++vs++cur.toList.drop (o+i+vs.length)).toArray)
  | [],i,cur,w,hg,_,_,_=>by
    simp only [storeCells,List.append_nil,List.length_nil,Nat.add_zero,List.take_append_drop,Array.toArray_toList]
    rw [setRow_self w g cur t fz hg]
    rfl
  | v::rest,i,cur,w,hg,hl,hz,a=>by
    have hi:o+i < cur.size:=by simp at hl; omega
    have hadd:(⟨g,o,none⟩:Addr).add i=⟨g,o+i,none⟩:=add0 g o i
    have hcell:w.cell? ⟨g,o+i,none⟩=some cur[o+i]:=by simp [World.cell?,hg,hi]
    have hfro:w.frozen? ⟨g,o+i,none⟩=false:=by
      have:=hz (o+i) hi
      simp only [World.frozen?,hg]
      rw [Bool.eq_false_iff]
      intro hh
      simp only [Bool.and_eq_true,decide_eq_true_eq] at hh
      exact this hh
    have hst:(store ((⟨g,o,none⟩:Addr).add i) v).run P w= .ok () (w.setRow g (cur.setIfInBounds (o+i) v)):=by
      rw [hadd,run_store P w _ v _ (a v i3),hcell]
      simp [hfro,setCell_eq_setRow w g (o+i) cur t fz v hg]
    have ih:=nJ g o t fz rest (i+1) (cur.setIfInBounds (o+i) v) (w.setRow g (cur.setIfInBounds (o+i) v)) (setRow_heap w g cur _ t _ hg) (by simp at hl ⊢; omega) (by simpa using hz) (λ x hx=>a x (by simp [hx]))
    simp only [storeCells,Sem.run_bind,hst,Result.andThen_ok,ih,setRow_setRow]
    congr 3
    have e:=list_seg_step cur.toList (o+i) v rest (by simp at hl ⊢; omega)
    simpa [Array.toList_setIfInBounds,Nat.add_assoc] using e
def put (cur:List Value) (o:Nat) (vs:List Value):List Value:=cur.take o++vs++cur.drop (o+vs.length)
theorem sV {cur vs:List Value} {o:Nat} (h:o+vs.length<=cur.length):(put cur o vs).length=cur.length:=by
  simp only [put,o0,m8,m9]; omega
theorem Ju {vs:List Value} (hS:∀ W,(sizeOf T).run P W= .ok vs.length W) (hv:v.cells=vs.toArray) (hr:(storeCells ⟨g,o,none⟩ vs 0).run P w= .ok () w0):(storeVar T ⟨g,o,none⟩ v).run P w= .ok () w0:=by
  unfold storeVar
  simp [hv,hS w,Result.andThen,hr]
theorem Own.store {vs:List Value} {cs':List Value} (H:Own w0 D w (blk g cs t::L)) (f:vs.all Value.oneCell'=true) (hf:o+vs.length<=cs.length) (hc:put cs o vs=cs'):
    ∃ w',(storeCells ⟨g,o,none⟩ vs 0).run P w= .ok () w'/\Own w0 D w' (blk g cs' t::L):=by
  obtain⟨h,⟨fz,j,l⟩,m⟩:=H.get (i:=0) rfl
  have hg:=m g _ j
  have hr:=nJ (P:=P) g o t fz vs 0 cs.toArray w hg (by simpa using hf) (by simpa using l.no) (by simpa using f)
  refine⟨_,hr,H.upd rfl rfl rfl (by simp [World.setRow]) λ r ⟨a,d,p⟩ hk=> ?_⟩
  have hfz:a=fz:=by
    have:=hk g _ d
    rw [hg] at this
    injection this with this
    injection this with _ _ this
    exact this.symm
  subst hfz
  refine⟨λ k=>if k=g then some (.cells cs'.toArray t a) else none,⟨a,by simp,by rw [<- hc,sV hf]; exact p⟩,λ k o' hk'=> ?_,λ k q b=> ?_⟩
  . by_cases e:k=g
    . subst e
      simp only [if_true,Option.some.injEq] at hk'
      subst hk'
      refine⟨?_, .inl (by rw [d]; exact Option.some_ne_none _)⟩
      rw [setRow_heap w k _ _ t a hg, <- hc]
      simp [put]
    . simp only [e,if_false] at hk'; cases hk'
  . exact setRow_other w g k _ (λ e=>by subst e; rw [d] at b; cases b)
theorem Own.storeRow {vs:List Value} {xs':List Value} (H:Own w0 D w (row A n c xs t sz::L)) (s:vs.all Value.oneCell'=true) (hn:0 < vs.length) (hf:o+vs.length<=xs.length) (hc:put xs o vs=xs'):
    ∃ w',(storeCells ⟨ab A,ao A+o,none⟩ vs 0).run P w= .ok () w'/\Own w0 D w' (row A n c xs' t sz::L):=by
  obtain⟨h,⟨hl,hr⟩,u⟩:=H.get (i:=0) rfl
  rcases hr with ⟨_,x,_⟩ | ⟨g,cur,fz,rfl,y,m,z,p,B,q⟩
  . rw [hl,x,Nat.zero_mul] at hf; omega
  have hg:=u g _ y
  have hle:n *sz<=cur.size:=by rw [p]; exact m7 _ m
  have hr:=nJ (P:=P) g o t fz vs 0 cur w hg (by simp only [Nat.add_zero]; omega) q.no (by simpa using s)
  have C:(⟨ab (some (⟨g,0,none⟩:Addr)),ao (some (⟨g,0,none⟩:Addr))+o,none⟩:Addr)=⟨g,o,none⟩:=by simp [ab,ao]
  rw [C]
  refine⟨_,hr,H.upd rfl rfl rfl (by simp [World.setRow]) λ J ⟨_,E⟩ hk=> ?_⟩
  rcases E with ⟨e,_⟩ | ⟨g',cur',fz',e,f,_,_,_,K,M⟩
  . cases e
  . injection e with e
    injection e with e
    subst e
    have hcc:=hk g _ f
    rw [hg] at hcc
    injection hcc with hcc
    injection hcc with l _ F
    subst l F
    have a:cur.toList.length=cur.size:=Array.length_toList
    have hput:(put cur.toList o vs).length=cur.size:=by rw [sV e8,a]
    refine⟨λ k=>if k=g then some (.cells (put cur.toList o vs).toArray t fz) else none,⟨by rw [<- hc,sV hf,hl], .inr ⟨g,(put cur.toList o vs).toArray,fz,rfl,by simp,m,z,by rw [o1,hput,p], ?_,by rw [o1,hput]; exact q⟩⟩,λ k o' hk'=> ?_,λ k G b=> ?_⟩
    . rw [<- hc, <- B]
      simp only [List.toList_toArray,put]
      have hcl:cur.toList.length=cur.size:=Array.length_toList
      have hxs:xs.length<=cur.toList.length:=by rw [hl,hcl]; exact hle
      apply List.ext_getElem?
      intro j
      simp only [m3,List.getElem?_append,m4,m8,o0,m9,hcl]
      have l:min o cur.size=o:=by omega
      have I:min o (min (n *sz) cur.size)=o:=by omega
      rw [l,I]
      by_cases hj:j < n *sz
      . by_cases d:j < o+vs.length
        . by_cases r:j < o
          . simp [hj,d,r]
          . simp [hj,d,r]
        . have:o+vs.length+(j - (o+vs.length)) < n *sz:=by omega
          simp [hj,d,this]
      . have d: ¬ j < o+vs.length:=by omega
        have: ¬ o+vs.length+(j - (o+vs.length)) < n *sz:=by omega
        simp [hj,d,this]
    . by_cases e:k=g
      . subst e
        simp only [if_true,Option.some.injEq] at hk'
        subst hk'
        refine⟨?_, .inl (by rw [f]; exact Option.some_ne_none _)⟩
        rw [setRow_heap w k _ _ t fz hg]
        simp [put]
      . simp only [e,if_false] at hk'; cases hk'
    . exact setRow_other w g k _ (λ e=>by subst e; rw [f] at b; cases b)
end
end
open List renaming eq_nil_of_length_eq_zero->o3,map_toArray->p3,take_left->p2,toList_toArray->p0
open Nat renaming add_mul->o4,eq_zero_or_pos->o2
section
open Go.RowKit
section
variable {P:Program} {n:Nat} {F:List (Nat × Value)} {w0 w:World} {D:Nat->Prop} {L:List HP} {op:Op} {ty:TypeId} {v:Value} {K:Value->World->Prop} {x y:Operand} {T t:TypeId} {g o:Nat} {cs cs' xs vs:List Value}
theorem Il {p:Addr} (hx:ev F x=some (.pointer (some p))) (hl:bQ P w T p v):Yl P n F w (.load T x) ty v:=λ a ha o' b _=>by
  unfold bQ at hl
  unfold execOp
  rw [b]
  simp only [ha.eval hx,Instr.loadAt,Instr.sureAddr,Sem.run_bind,Sem.run_pure,Result.andThen_ok,hl]
theorem JW {p:Addr} {w':World} (hx:ev F x=some (.pointer (some p))) (hy:ev F y=some v) (hr:(storeVar T p v).run P w= .ok () w') (hk:K undef w'):Do P n F w (.store T x y) ty K:=λ a ha o' b _ next Q hn=>by
  unfold execOp
  rw [b]
  simp only [ha.eval hx,ha.eval hy,Instr.storeAt,Instr.sureAddr,Sem.run_bind,Sem.run_pure,Result.andThen_ok,hr]
  exact hn _ _ hk
theorem Do.store (H:Own w0 D w (blk g cs t::L)) (hx:ev F x=some (.pointer (some ⟨g,o,none⟩))) (hy:ev F y=some v) (hS:∀ W,(sizeOf T).run P W= .ok vs.length W) (hv:v.cells=vs.toArray) (a:vs.all Value.oneCell'=true) (hf:Nat.ble (o+vs.length) cs.length=true) (hc:put cs o vs=cs')
    (h:∀ w',Own w0 D w' (blk g cs' t::L)->K undef w'):Do P n F w (.store T x y) ty K:=by
  obtain⟨w',hr,H'⟩:=H.store (P:=P) a (Lh hf) hc
  exact JW hx hy (Ju hS hv hr) (h w' H')
theorem Do.storeRow {A:Option Addr} {m c sz q:Nat} {xs':List Value} (H:Own w0 D w (row A m c xs t sz::L)) (hx:ev F x=some (.pointer (some ⟨ab A,q,none⟩))) (hq:q=ao A+o) (hy:ev F y=some v) (hS:∀ W,(sizeOf T).run P W= .ok vs.length W) (hv:v.cells=vs.toArray) (a:vs.all Value.oneCell'=true)
    (hn:0 < vs.length) (hf:o+vs.length<=xs.length) (hc:put xs o vs=xs') (h:∀ w',Own w0 D w' (row A m c xs' t sz::L)->K undef w'):Do P n F w (.store T x y) ty K:=by
  subst hq
  obtain⟨w',hr,H'⟩:=H.storeRow (P:=P) a hn hf hc
  exact JW hx hy (Ju hS hv hr) (h w' H')
theorem Kg (H:Own w0 D w L) (hk:known F op.operands.toList=true) (b:pI op=true) (hr:∀ W,(execOp (og F) ⟨none,op,ty, "", #[],none⟩).run P W= .ok (.value (.pointer (some ⟨W.heap.size,0,none⟩))) (W.alloc (.cells cs.toArray t (0,0))))
    (h:∀ g w',Own w0 D w' (blk g cs t::L)->K (.pointer (some ⟨g,0,none⟩)) w'):Do P n F w op ty K:=λ a ha o c d next Q hn=>by
  have hs:=uU b
  have e:execOp a.eval o=execOp (og F) o:=execOp_congr o (by rw [c]; exact hs) λ x hx=>tu ha hk x (by rw [c] at hx; simpa using hx)
  have f:execOp (og F) o=execOp (og F) ⟨none,op,ty, "", #[],none⟩:=by
    unfold execOp
    rw [c,d]
  rw [e,f,hr w]
  exact hn _ _ (h _ _ (H.alloc _ ⟨(0,0),by simp,wm.zero _⟩))
theorem IZ {sz m:Nat} (H:Own w0 D w L) (hk:known F op.operands.toList=true) (b:pI op=true) (hr:∀ W,(execOp (og F) ⟨none,op,ty, "", #[],none⟩).run P W= .ok (.value (.slice (some ⟨W.heap.size,0,none⟩) m m)) (W.alloc (.cells cs.toArray t (0,0))))
    (hl:cs.length=m *sz) (hm:m<=4294967296) (h:∀ A w',Own w0 D w' (row A m m cs t sz::L)->K (.slice A m m) w'):Do P n F w op ty K:=λ a ha o c d next Q hn=>by
  have hs:=uU b
  have e:execOp a.eval o=execOp (og F) o:=execOp_congr o (by rw [c]; exact hs) λ x hx=>tu ha hk x (by rw [c] at hx; simpa using hx)
  have f:execOp (og F) o=execOp (og F) ⟨none,op,ty, "", #[],none⟩:=by
    unfold execOp
    rw [c,d]
  rw [e,f,hr w]
  refine hn _ _ (h _ _ (H.alloc _ ⟨hl, .inr ⟨w.heap.size,cs.toArray,(0,0),rfl,by simp,Nat.le_refl _,by unfold maxLen; omega,by simpa using hl,by rw [<- hl]; simp,wm.zero _⟩⟩))
def Elem (P:Program) (t e size bytes:Nat):Prop:=
  ∃ i z,P.underlying t=some (.slice e)/\P.info? e=some i/\i.zero=some z/\i.size=size/\i.bytes=bytes/\z.cells.size=size/\0 < size
theorem l6 {t e size bytes:Nat} {z:Value} (ht:P.underlying t=some (.slice e)) (h:(P.info? e).map (λ i=>(i.zero,i.size,i.bytes))=some (some z,size,bytes)) (hz:z.cells.size=size) (hs:0 < size):Elem P t e size bytes:=by
  obtain⟨i,hi,a,b,c⟩:=info_parts h
  exact⟨i,z,ht,hi,a,b,c,hz,hs⟩
theorem KZ {t e size bytes:Nat} (el:Elem P t e size bytes):∃ i,P.info? e=some i/\i.size=size:=
  let ⟨i,_,_,h,_,h',_⟩:=el
  ⟨i,h,h'⟩
theorem Elem.und {t e size bytes:Nat} (el:Elem P t e size bytes):P.underlying t=some (.slice e):=let ⟨_,_,h,_⟩:=el; h
theorem Elem.pos {t e size bytes:Nat} (el:Elem P t e size bytes):0 < size:=let ⟨_,_,_,_,_,_,_,_,h⟩:=el; h
theorem nM {z:Array Value} {n:Nat}:(Builtin.zeroCells z n).size=n *z.size:=by simp [Builtin.zeroCells]
theorem eY {size m c:Nat} {A:Option Addr} {tx e':TypeId} {news:List Value} (hk:P.underlying tx=some (.slice e')) (h:bO w size A m news) (b:∀ u ∈ news,u.oneCell'=true):Src P size tx (.slice A m c) m news w:=by
  rcases o2 m with rfl | hm
  . have hn:news= []:=o3 (by simpa using h.1)
    subst hn
    rcases A with _ | a
    . exact Src.ofNil w hk c
    . exact Src.ofSlice w hk a 0 c [] i3 i3 i3
  . rw [h.isSome hm]
    refine Src.ofSlice w hk _ m c news h.1 (λ j u hu=> ?_) b
    rw [add0]; exact h.cls hm j u hu
theorem Own.append {A:Option Addr} {k c m e size bytes:Nat} {news:List Value} {u:Value} {tx:TypeId} (el:Elem P t e size bytes) (H:Own w0 D w (row A k c xs e size::L)) (hs:Src P size tx u m news w) (ty:TypeId)
    (l:k+m<=maxLen) (hgs:∀ old,old < k+m->Builtin.nextslicecap (k+m) old *bytes<=281474976710656):
    ∃ A' c' w',(Builtin.append_ #[t,tx] ty #[.slice A k c,u]).run P w= .ok (.slice A' (k+m) c') w'/\Own w0 D w' (row A' (k+m) c' (xs++news) e size::L):=by
  obtain⟨i,z,ht,hi,hz,rfl,rfl,hzs,hsz⟩:=el
  obtain⟨h,hR,B⟩:=H.get (i:=0) rfl
  have hsmall:k+m<=9223372036854775807:=by simp only [maxLen] at l; omega
  have hxl:=hR.1
  have hlen:(xs++news).length=(k+m) *i.size:=by rw [o0,hxl,hs.newsLen,o4]
  have grown:∀ (old:Nat) (R:HP),Own w0 D w (R::L)->Own w0 D (w.drew.alloc (.cells ((xs++news).toArray++Builtin.zeroCells z.cells (grownCap w (k+m) old e - (k+m))) e)) (row (some ⟨w.heap.size,0,none⟩) (k+m) (grownCap w (k+m) old e) (xs++news) e i.size::L):=by
    intro old R HR
    have hge:=grownCap_ge w (k+m) old e
    have hcm:grownCap w (k+m) old e<=maxLen:=grownCap_le_maxLen w (k+m) old e l
    have HL:Own w0 D w.drew L:=by
      have:=HR.drew
      obtain⟨q,r,f,C,E,G⟩:=this.own
      exact⟨this.os,this.tape,this.output,this.size,this.keep,q,r,λ j=>f (j+1),λ j S hj=>C (j+1) S (by simpa using hj),λ j=>E (j+1),λ a b kk hne=>G (a+1) (b+1) kk e8⟩
    refine HL.alloc _ ⟨hlen, .inr ⟨w.heap.size,_,(0,0),rfl,by simp; rfl,hge,hcm, ?_, ?_,wm.zero _⟩⟩
    . rw [Array.size_append,nM,hzs,o1,hlen, <- o4]
      congr 1
      omega
    . rw [Array.toList_append, <- hlen,p0]
      exact p2
  rcases hR.2 with ⟨rfl,rfl,rfl⟩ | ⟨g,cur,fz,rfl,r,hnc,hcm,hcs,htake,hfz⟩
  . have hx:xs= []:=o3 (by simpa using hxl)
    subst hx
    by_cases hm:m=0
    . subst hm
      have hn:news= []:=o3 (by simpa using hs.newsLen)
      subst hn
      refine⟨none,0,w, ?_,H⟩
      have hc:=hs.cells
      rcases hs.kind with ⟨e',hk⟩ | hk <;> simp [Builtin.append_,run_underlying ht,run_underlying hk,sizeOf,typeInfo,hi,hs.len,hc,storeCells]
    . have hr:=run_append_grow_src (P:=P) w t tx ty e i z ht hi hz none 0 0 [] (by simp [Builtin.firstCells]) u m news hs e8 e8 (hgs 0 e8)
      exact⟨_,_,_,hr,grown 0 _ H⟩
  . have hg:=B g _ r
    by_cases hroom:k+m<=c
    . have hfit:k *i.size+news.length<=cur.size:=by rw [hs.newsLen,hcs, <- o4]; exact Nat.mul_le_mul_right _ hroom
      have hst:=nJ (P:=P) g (k *i.size) e fz news 0 cur w hg (by simpa using hfit) hfz.no hs.one
      simp only [Nat.add_zero] at hst
      have hr:(Builtin.append_ #[t,tx] ty #[.slice (some ⟨g,0,none⟩) k c,u]).run P w= .ok (.slice (some ⟨g,0,none⟩) (k+m) c) (w.setRow g (cur.toList.take (k *i.size)++news++cur.toList.drop (k *i.size+news.length)).toArray):=by
        rcases hs.kind with ⟨e',hk⟩ | hk <;> simp [Builtin.append_,run_underlying ht,run_underlying hk,sizeOf,typeInfo,hi,hs.len,hroom,hs.cells,add0,hst]
      refine⟨_,_,_,hr,H.upd rfl rfl rfl (by simp [World.setRow]) λ N ⟨_,I⟩ hk=> ?_⟩
      rcases I with ⟨d,_⟩ | ⟨g',cur',fz',d,s,_,_,_,O,Q⟩
      . cases d
      . injection d with d
        injection d with d
        subst d
        have hcc:=hk g _ s
        rw [hg] at hcc
        injection hcc with hcc
        injection hcc with d _ J
        subst d J
        have hcl:cur.toList.length=cur.size:=Array.length_toList
        have hput:(put cur.toList (k *i.size) news).length=cur.size:=by rw [sV e8,hcl]
        refine⟨λ q=>if q=g then some (.cells (put cur.toList (k *i.size) news).toArray e fz) else none,⟨hlen, .inr ⟨g,(put cur.toList (k *i.size) news).toArray,fz,rfl,by simp,hroom,hcm,by rw [o1,hput,hcs], ?_,by rw [o1,hput]; exact hfz⟩⟩,λ q o' hk'=> ?_,λ q M p=> ?_⟩
        . rw [p0]
          unfold put
          rw [htake, <- hlen]
          exact p2
        . by_cases e:q=g
          . subst e
            simp only [if_true,Option.some.injEq] at hk'
            subst hk'
            refine⟨?_, .inl (by rw [s]; exact Option.some_ne_none _)⟩
            rw [setRow_heap w q _ _ _ fz hg]
            simp [put]
          . simp only [e,if_false] at hk'; cases hk'
        . exact setRow_other w g q _ (λ e=>by subst e; rw [s] at p; cases p)
    . have hR':=H.rds (i:=0) rfl
      have hold:(Builtin.firstCells i.size k (.slice (some ⟨g,0,none⟩) k c)).run P w.drew= .ok xs.toArray w.drew:=run_firstCells_some w.drew i.size k ⟨g,0,none⟩ k c xs hxl (λ j v hj=>by
        have:=hR'.cell hj
        rw [add0]; exact this)
      have hr:=run_append_grow_src (P:=P) w t tx ty e i z ht hi hz (some ⟨g,0,none⟩) k c xs hold u m news hs e8 e8 (hgs c e8)
      exact⟨_,_,_,hr,grown c _ H⟩
theorem Do.append {A:Option Addr} {k c m e size bytes:Nat} {news:List Value} {u:Value} {tx:TypeId} (el:Elem P t e size bytes) (H:Own w0 D w (row A k c xs e size::L)) (hx:ev F x=some (.slice A k c)) (hy:ev F y=some u) (hs:Src P size tx u m news w)
    (b:k+m<=maxLen) (hbytes:(k+m) *bytes<=140737488355328) {s:Nat} {ys:List Value} (hsum:k+m=s) (hys:xs++news=ys) (h:∀ A' c' w',Own w0 D w' (row A' s c' ys e size::L)->K (.slice A' s c') w'):
    Do P n F w (.call ⟨.builtin .append, [x,y].toArray, [t,tx].toArray⟩) ty K:=λ a ha o d f next Q hn=>by
  obtain⟨A',c',w',hr,H'⟩:=H.append (P:=P) el hs o.type b λ _ ho'=>growslice_fits ho' hbytes
  unfold execOp
  rw [d]
  simp only [resolve,invoke,builtin,Sem.run_bind,Sem.run_pure,Result.andThen_ok,p3,List.map_cons,List.map_nil,ha.eval hx,ha.eval hy,hr]
  subst hsum hys
  exact hn _ _ (h A' c' w' H')
theorem Own.appendNew {A:Option Addr} {k m e size bytes:Nat} {news:List Value} {u:Value} {tx:TypeId} (el:Elem P t e size bytes) (H:Own w0 D w L) (hr:bO w size A k xs) (hs:Src P size tx u m news w) (hm:0 < m) (ty:TypeId)
    (a:k+m<=maxLen) (hgs:∀ old,old < k+m->Builtin.nextslicecap (k+m) old *bytes<=281474976710656):
    ∃ A' c' w',(Builtin.append_ #[t,tx] ty #[.slice A k k,u]).run P w= .ok (.slice A' (k+m) c') w'/\Own w0 D w' (row A' (k+m) c' (xs++news) e size::L):=by
  obtain⟨i,z,ht,hi,hz,rfl,rfl,hzs,hsz⟩:=el
  have hsmall:k+m<=9223372036854775807:=by simp only [maxLen] at a; omega
  have hlen:(xs++news).length=(k+m) *i.size:=by rw [o0,hr.1,hs.newsLen,o4]
  have hge:=grownCap_ge w (k+m) k e
  have hcm:grownCap w (k+m) k e<=maxLen:=grownCap_le_maxLen w (k+m) k e a
  have hold:(Builtin.firstCells i.size k (.slice A k k)).run P w.drew= .ok xs.toArray w.drew:=by
    rcases A with _ | b
    . have c:k=0:=by
        rcases o2 k with e | e
        . exact e
        . have:=hr.isSome e; cases this
      subst c
      have:xs= []:=o3 (by simpa using hr.1)
      subst this
      simp [Builtin.firstCells]
    . refine run_firstCells_some w.drew i.size k b k k xs hr.1 λ j v hj=> ?_
      have hk:0 < k:=by
        have:=(List.getElem?_eq_some_iff.1 hj).1
        rcases o2 k with e | e
        . rw [hr.1,e,Nat.zero_mul] at this; omega
        . exact e
      have hb:=hr.isSome hk
      injection hb with hb
      rw [hb,add0]; exact hr.cell hj
  have hrun:=run_append_grow_src (P:=P) w t tx ty e i z ht hi hz A k k xs hold u m news hs e8 e8 (hgs k e8)
  refine⟨_,_,_,hrun,H.drew.alloc _ ⟨hlen, .inr ⟨w.heap.size,_,(0,0),rfl,by simp; rfl,hge,hcm, ?_, ?_,wm.zero _⟩⟩⟩
  . rw [Array.size_append,nM,hzs,o1,hlen, <- o4]
    congr 1
    omega
  . rw [Array.toList_append, <- hlen,p0]
    exact p2
theorem Do.appendNew {A:Option Addr} {k m e size bytes:Nat} {news:List Value} {u:Value} {tx:TypeId} (el:Elem P t e size bytes) (H:Own w0 D w L) (hr:bO w size A k xs) (hx:ev F x=some (.slice A k k)) (hy:ev F y=some u) (hs:Src P size tx u m news w) (hm:0 < m)
    (b:k+m<=maxLen) (hbytes:(k+m) *bytes<=140737488355328) {s:Nat} {ys:List Value} (hsum:k+m=s) (hys:xs++news=ys) (h:∀ A' c' w',Own w0 D w' (row A' s c' ys e size::L)->K (.slice A' s c') w'):
    Do P n F w (.call ⟨.builtin .append, [x,y].toArray, [t,tx].toArray⟩) ty K:=λ a ha o c d next Q hn=>by
  obtain⟨A',c',w',hr,H'⟩:=H.appendNew (P:=P) el hr hs hm o.type b λ _ ho'=>growslice_fits ho' hbytes
  unfold execOp
  rw [c]
  simp only [resolve,invoke,builtin,Sem.run_bind,Sem.run_pure,Result.andThen_ok,p3,List.map_cons,List.map_nil,ha.eval hx,ha.eval hy,hr]
  subst hsum hys
  exact hn _ _ (h A' c' w' H')
theorem IB {f:FuncId} {args:List Operand} {vals:List Value} {tys:Array TypeId} {R:Value->World->Prop} (hf:∀ (b:Array Value) W,(callFunc f b).run P W= .ok (.enter f b) W) (ha:vM F args=some vals) (hc:Calls P f vals.toArray w (dI R))
    (h:∀ v w',R v w'->K v w'):Do P n F w (.call ⟨.value (.func f),args.toArray,tys⟩) ty K:=λ a hag o c d next Q hn=>by
  have e:(execOp a.eval o).run P w= .ok (.enter f vals.toArray) w:=by
    unfold execOp
    rw [c]
    simp [resolve,Act.eval,Deferred.ofValue,invoke,hag.evals ha,hf]
  rw [e,Oper.upon_enter]
  exact hc.mono λ e w' hR=>by
    obtain⟨v,rfl,hk⟩:=hR
    exact hn _ _ (h _ _ hk)
theorem IM {fx:Operand} {f:FuncId} {args:List Operand} {vals:List Value} {first cap:Array Value} {tys:Array TypeId} {R:Value->World->Prop} (hf:∀ (b:Array Value) W,(callFunc f b).run P W= .ok (.enter f b) W) (hx:ev F fx=some (.func (.func f) first cap)) (ha:vM F args=some vals) (hc:Calls P f (first++vals.toArray++cap) w (dI R))
    (h:∀ v w',R v w'->K v w'):Do P n F w (.call ⟨.value fx,args.toArray,tys⟩) ty K:=λ a hag o c d next Q hn=>by
  have e:(execOp a.eval o).run P w= .ok (.enter f (first++vals.toArray++cap)) w:=by
    unfold execOp
    rw [c]
    simp [resolve,hag.eval hx,Deferred.ofValue,invoke,hag.evals ha,hf]
  rw [e,Oper.upon_enter]
  exact hc.mono λ e w' hR=>by
    obtain⟨v,rfl,hk⟩:=hR
    exact hn _ _ (h _ _ hk)
theorem Ka {src dst e:TypeId} {A:Option Addr} {m c:Nat} {l:List UInt8} (hs:P.underlying src=some (.slice e)) (he:P.underlying e=some (.int .u8)) (hd:P.underlying dst=some .string) (hr:bO w 1 A m (l.map λ b=>Value.int .u8 (b.toNat:Int))) (hx:ev F x=some (.slice A m c)):
    Yl P n F w (.convert src dst x) ty (.string ⟨l.toArray⟩):=λ a ha o d _=>by
  unfold execOp
  rw [d]
  have hml:l.length=m:=by simpa using hr.1
  have:(convert src dst (.slice A m c)).run P w= .ok (.string ⟨l.toArray⟩) w:=by
    rcases A with _ | b
    . have f:m=0:=by
        rcases o2 m with e | e
        . exact e
        . have:=hr.isSome e; cases this
      rw [run_convert_bytes_string w src dst e none m c hs he hd]
      have hx:l= []:=o3 e8
      subst hx
      simp [Conv.bytesToString]
      rfl
    . subst hml
      refine run_convert_bytes_back w src dst e b c l hs he hd λ j hj=> ?_
      have hb:=hr.isSome e8
      injection hb with hb
      rw [hb,add0]
      exact hr.cell (by rw [List.getElem?_map,List.getElem?_eq_getElem hj]; rfl)
  simp only [ha.eval hx,Sem.run_bind,Sem.run_pure,Result.andThen_ok,this]
end
end
open List renaming append_assoc->q3,drop_length_add_append->q5,flatMap->q2,flatMap_cons->p7,getElem?_cons_succ->q1,getElem?_cons_zero->p6,getElem?_eq_getElem->p5,getElem?_eq_some_iff->p4,take_length_add_append->q4
open Nat renaming zero_mul->q0
section
open Go.RowKit
section
variable {P:Program} {n:Nat} {F:List (Nat × Value)} {w:World} {ty T:TypeId} {x y:Operand} {a b l:List UInt8}
theorem sN (a b:List UInt8):(a==b)=decide (a=b):=by by_cases h:a=b <;> simp [h]
theorem Js {op:BinOp} {v u r:Value} {yt:TypeId} (hx:ev F x=some v) (hy:ev F y=some u) (hg:∀ x y,eqGuard op T x y v u=pure ()) (hr:(binOp op T v u).run P w= .ok r w):Yl P n F w (.binOp op T x y yt) ty r:=λ ac ha o d _=>by
  unfold execOp
  rw [d]
  simp only [ha.eval hx,ha.eval hy,hg,Sem.run_bind,Sem.run_pure,Result.andThen_ok,hr]
theorem sW (op:BinOp) (t:TypeId) (s:ByteArray) (v:Value) (x y:Operand):eqGuard op t x y (.string s) v=pure ():=by cases op <;> rfl
theorem Jq {yt:TypeId} (hx:ev F x=some (.string ⟨a.toArray⟩)) (hy:ev F y=some (.string ⟨b.toArray⟩)):Yl P n F w (.binOp .eql T x y yt) ty (.bool (decide (a=b))):=
  Js hx hy (sW _ _ _ _) (by rw [binOp_string_eql,ByteArray.toList_mk,ByteArray.toList_mk,sN]; rfl)
theorem IW {yt:TypeId} (hx:ev F x=some (.string ⟨a.toArray⟩)) (hy:ev F y=some (.string ⟨b.toArray⟩)):Yl P n F w (.binOp .neq T x y yt) ty (.bool (decide (a≠b))):=
  Js hx hy (sW _ _ _ _) (by rw [binOp_string_neq,ByteArray.toList_mk,ByteArray.toList_mk,sN]; simp)
theorem JP {yt:TypeId} (hx:ev F x=some (.string ⟨a.toArray⟩)) (hy:ev F y=some (.string ⟨b.toArray⟩)):Yl P n F w (.binOp .lss T x y yt) ty (.bool (Op.bytesLess a b)):=
  Js hx hy (sW _ _ _ _) (by rw [binOp_string_lss,ByteArray.toList_mk,ByteArray.toList_mk]; rfl)
theorem JC {yt:TypeId} (hx:ev F x=some (.string ⟨a.toArray⟩)) (hy:ev F y=some (.string ⟨b.toArray⟩)):Yl P n F w (.binOp .leq T x y yt) ty (.bool (Op.bytesLess a b || decide (a=b))):=
  Js hx hy (sW _ _ _ _) (by rw [binOp_string_leq,ByteArray.toList_mk,ByteArray.toList_mk,sN]; rfl)
theorem JD {yt:TypeId} (hx:ev F x=some (.string ⟨a.toArray⟩)) (hy:ev F y=some (.string ⟨b.toArray⟩)):Yl P n F w (.binOp .geq T x y yt) ty (.bool (!(Op.bytesLess a b))):=
  Js hx hy (sW _ _ _ _) (by rw [binOp_string_geq,ByteArray.toList_mk,ByteArray.toList_mk]; rfl)
theorem yl (a b:List UInt8):Op.bytesLess a b=decide (a < b):=by rw [Proofs.bytesLess_eq]
theorem z8 (a b:List UInt8):(Op.bytesLess a b || decide (a=b))=decide (a<=b):=by
  rw [yl]
  by_cases d:a < b
  . have:a<=b:=by grind
    simp [d,this]
  . by_cases f:a=b
    . subst f; have:a<=a:=by grind
      simp [this]
    . have: ¬ a<=b:=by grind
      simp [d,f,this]
theorem Aa (a b:List UInt8):(!(Op.bytesLess a b))=decide (b<=a):=by
  rw [yl]
  by_cases h:a < b
  . have: ¬ b<=a:=by grind
    simp [h,this]
  . have:b<=a:=by grind
    simp [h,this]
theorem Jw {yt:TypeId} (hx:ev F x=some (.string ⟨a.toArray⟩)) (hy:ev F y=some (.string ⟨b.toArray⟩)) (hl:a.length+b.length<=9223372036854775807):Yl P n F w (.binOp .add T x y yt) ty (.string ⟨(a++b).toArray⟩):=
  Js hx hy (sW _ _ _ _) (by
    have d:(⟨a.toArray⟩:ByteArray).size=a.length:=by simp [ByteArray.size]
    have f:(⟨b.toArray⟩:ByteArray).size=b.length:=by simp [ByteArray.size]
    have:=run_string_add_sum (P:=P) w ⟨a.toArray⟩ ⟨b.toArray⟩ (by rw [d,f]; exact hl)
    have e:(⟨a.toArray⟩++⟨b.toArray⟩:ByteArray)=⟨(a++b).toArray⟩:=by
      apply ByteArray.ext
      rw [ByteArray.data_append]
      simp
    rw [<- e]
    exact this)
theorem Jr {k:IntKind} {i:Nat} {c:UInt8} (hu:P.underlying T=some .string) (hx:ev F x=some (.string ⟨l.toArray⟩)) (hy:ev F y=some (.int k (i:Int))) (hc:l[i]? =some c):Yl P n F w (.index T x y) ty (.int .u8 (c.toNat:Int)):=λ ac ha o d _=>by
  unfold execOp
  rw [d]
  have hi:=(p4.1 hc).1
  have f:(⟨l.toArray⟩:ByteArray)[i]? =some c:=by
    have hs:i < (⟨l.toArray⟩:ByteArray).size:=by simpa [ByteArray.size] using hi
    have e:(⟨l.toArray⟩:ByteArray)[i]? =some ((⟨l.toArray⟩:ByteArray)[i]'hs):=getElem?_pos (⟨l.toArray⟩:ByteArray) i hs
    rw [e]
    rw [p5 hi] at hc
    rw [<- hc]
    rfl
  simp only [ha.eval hx,ha.eval hy,Instr.index,asIntOf,Sem.run_bind,Sem.run_pure,Result.andThen_ok,run_underlying hu]
  rw [if_pos e8,Int.toNat_natCast,f]
  rfl
theorem Bw (l:List UInt8) (i j:Nat):(⟨l.toArray⟩:ByteArray).extract i j=⟨((l.take j).drop i).toArray⟩:=by
  apply ByteArray.ext
  apply Array.ext'
  simp [List.extract_eq_take_drop,List.drop_take]
theorem Em (l:List UInt8):(⟨l.toArray⟩:ByteArray).size=l.length:=by simp [ByteArray.size]
theorem Bz {lo hi mx:Option Value} (hu:P.underlying T=some .string):(Instr.sliceAt T (.string ⟨l.toArray⟩) lo hi mx).run P w=(Instr.slice T (.string ⟨l.toArray⟩) lo hi mx).run P w:=by
  simp [Instr.sliceAt,run_underlying hu]
theorem J4 {j:Nat} {k:IntKind} {hx':Operand} (hu:P.underlying T=some .string) (hx:ev F x=some (.string ⟨l.toArray⟩)) (hh:ev F hx'=some (.int k (j:Int))) (hj:j<=l.length):
    Yl P n F w (.slice T x none (some hx') none) ty (.string ⟨(l.take j).toArray⟩):=λ ac ha o d _=>by
  unfold execOp
  rw [d]
  have:(Instr.slice T (.string ⟨l.toArray⟩) none (some (.int k (j:Int))) none).run P w= .ok (.string ⟨(l.take j).toArray⟩) w:=by
    simp [Instr.slice,run_underlying hu,Instr.sliceBounds,Instr.sliceBound,asIntOf,Em,Result.andThen]
    rw [if_pos e8]
    simp [Bw]
  simp only [ha.eval hx,Option.map_some,Option.map_none,ha.eval hh,Sem.run_bind,Bz hu,this,Sem.run_pure,Result.andThen_ok]
variable {A:Option Addr} {m c e sz bytes:Nat}
def eO (A:Option Addr) (lo sz c:Nat):Option Addr:=if c=lo then A else A.map (·.add (lo *sz))
theorem Da (A:Option Addr) (sz c:Nat):eO A 0 sz c=A:=by
  unfold eO
  split
  . rfl
  . cases A <;> simp [Addr.add]
theorem gu {lo:Nat} (h:A=some ⟨ab A,ao A,none⟩) (hlt:lo < c):eO A lo sz c=some ⟨ab A,ao A+lo *sz,none⟩:=by
  unfold eO
  rw [if_neg e8,h]
  simp [add0,ab,ao]
theorem bO.cut {lo hi:Nat} {xs:List Value} (h:bO w sz A m xs) (d:lo<=hi) (f:hi<=m) (hc:m<=c):bO w sz (eO A lo sz c) (hi - lo) ((xs.drop (lo *sz)).take ((hi - lo) *sz)):=
  h.sub e8 λ hp=>gu (h.isSome e8) e8
theorem oH {t:TypeId} (ht:P.underlying t=some (.slice e)):P.elem t=e:=by simp [Program.elem,ht]
theorem Cz {lo hi mx:Option Value} (hu:P.underlying T=some (.slice e)):(Instr.sliceAt T (.slice A m c) lo hi mx).run P w=(Instr.slice T (.slice A m c) lo hi mx).run P w:=by
  simp [Instr.sliceAt,run_underlying hu]
theorem EZ (el:Elem P T e sz bytes) {i j:Nat} {k k':IntKind} (d:i<=j) (f:j<=c):(Instr.slice T (.slice A m c) (some (.int k (i:Int))) (some (.int k' (j:Int))) none).run P w= .ok (.slice (eO A i sz c) (j - i) (c - i)) w:=by
  obtain⟨q,_,ht,hi,_,rfl,_⟩:=el
  have ht':P.underlying T=some (.slice (P.elem T)):=by rw [oH ht]; exact ht
  rw [run_slice_lh w T A m c ht' k k' i j e8 e8 e8]
  simp [oH ht,sizeOf,typeInfo,hi,Result.andThen,sliced,eO]
theorem BA (el:Elem P T e sz bytes) {i:Nat} {k:IntKind} (d:i<=m):(Instr.slice T (.slice A m c) (some (.int k (i:Int))) none none).run P w= .ok (.slice (eO A i sz c) (m - i) (c - i)) w:=by
  obtain⟨q,_,ht,hi,_,rfl,_⟩:=el
  have ht':P.underlying T=some (.slice (P.elem T)):=by rw [oH ht]; exact ht
  rw [run_slice_l w T A m c ht' k i e8 e8]
  simp [oH ht,sizeOf,typeInfo,hi,Result.andThen,sliced,eO]
theorem Db (el:Elem P T e sz bytes) {j:Nat} {k:IntKind} (d:j<=c):(Instr.slice T (.slice A m c) none (some (.int k (j:Int))) none).run P w= .ok (.slice A j c) w:=by
  obtain⟨q,_,ht,hi,_,rfl,_⟩:=el
  have ht':P.underlying T=some (.slice (P.elem T)):=by rw [oH ht]; exact ht
  rw [run_slice_h w T A m c ht' k j e8 e8]
  simp [oH ht,sizeOf,typeInfo,hi,Result.andThen,sliced]
  cases A <;> simp [Addr.add]
theorem JY {v:Value} {lo hi mx:Option Operand} {lo' hi' mx':Option Value} (el:Elem P T e sz bytes) (hx:ev F x=some (.slice A m c)) (hlo:lo.map (ev F)=lo'.map some) (hhi:hi.map (ev F)=hi'.map some) (hmx:mx.map (ev F)=mx'.map some) (hr:(Instr.slice T (.slice A m c) lo' hi' mx').run P w= .ok v w):
    Yl P n F w (.slice T x lo hi mx) ty v:=λ ac ha o d _=>by
  have key:∀ (a:Option Operand) (b:Option Value),a.map (ev F)=b.map some->a.map ac.eval=b:=λ a b h=>by
    cases a <;> cases b <;> simp at h ⊢
    exact ha.eval h
  unfold execOp
  rw [d]
  simp only [ha.eval hx,key _ _ hlo,key _ _ hhi,key _ _ hmx,Sem.run_bind,Cz el.und,hr,Sem.run_pure,Result.andThen_ok]
theorem Yl.cut {lx hx':Operand} {i j:Nat} {k k':IntKind} (el:Elem P T e sz bytes) (hx:ev F x=some (.slice A m c)) (hl:ev F lx=some (.int k (i:Int))) (hh:ev F hx'=some (.int k' (j:Int))) (d:i<=j) (f:j<=c):Yl P n F w (.slice T x (some lx) (some hx') none) ty (.slice (eO A i sz c) (j - i) (c - i)):=
  JY el hx (lo':=some (.int k (i:Int))) (hi':=some (.int k' (j:Int))) (mx':=none) (by simp [hl]) (by simp [hh]) rfl (EZ el d f)
theorem II {lx:Operand} {i:Nat} {k:IntKind} (el:Elem P T e sz bytes) (hx:ev F x=some (.slice A m c)) (hl:ev F lx=some (.int k (i:Int))) (d:i<=m):Yl P n F w (.slice T x (some lx) none none) ty (.slice (eO A i sz c) (m - i) (c - i)):=
  JY el hx (lo':=some (.int k (i:Int))) (hi':=none) (mx':=none) (by simp [hl]) rfl rfl (BA el d)
theorem I4 {hx':Operand} {j:Nat} {k:IntKind} (el:Elem P T e sz bytes) (hx:ev F x=some (.slice A m c)) (hh:ev F hx'=some (.int k (j:Int))) (d:j<=c):Yl P n F w (.slice T x none (some hx') none) ty (.slice A j c):=
  JY el hx (lo':=none) (hi':=some (.int k (j:Int))) (mx':=none) rfl (by simp [hh]) rfl (Db el d)
theorem Im {i:Nat} {k:IntKind} (el:Elem P T e sz bytes) (hx:ev F x=some (.slice A m c)) (hy:ev F y=some (.int k (i:Int))) (hA:A=some ⟨ab A,ao A,none⟩) (hi:i < m):Yl P n F w (.indexAddr T x y) ty (.pointer (some ⟨ab A,ao A+i *sz,none⟩)):=λ ac ha o d _=>by
  obtain⟨q,_,ht,hq,_,rfl,_⟩:=el
  unfold execOp
  rw [d]
  have ht':P.underlying T=some (.slice (P.elem T)):=by rw [oH ht]; exact ht
  have:=run_indexAt_slice (P:=P) w T ⟨ab A,ao A,none⟩ m c k i ht'
  simp only [ha.eval hx,ha.eval hy]
  rw [hA]
  simp only [Sem.run_bind,this]
  rw [if_pos e8]
  simp [oH ht,sizeOf,typeInfo,hq,Result.andThen,add0,ab,ao]
theorem Jj {yt:TypeId} {m' c':Nat} (hu:P.underlying T=some (.slice e)) (hx:ev F x=some (.slice A m c)) (hy:ev F y=some (.slice none m' c')):Yl P n F w (.binOp .eql T x y yt) ty (.bool A.isNone):=
  Js hx hy (λ _ _=>rfl) (Lib.run_eql_slice_nil w T e A m c m' c' hu)
end
theorem y7 {α:Type} {enc:α->List Value} {sz:Nat} (hz:∀ x,(enc x).length=sz):∀ {ls:List α} {i:Nat} {x:α} {f:Nat} {v:Value},ls[i]? =some x->(enc x)[f]? =some v->(ls.flatMap enc)[i *sz+f]? =some v
  | [],_,_,_,_,h,_=>by simp at h
  | y::ls,0,x,f,v,h,hf=>by
    simp only [p6,Option.some.injEq] at h
    subst h
    have:=(p4.1 hf).1
    rw [p7,q0,Nat.zero_add,List.getElem?_append_left this]; exact hf
  | y::ls,i+1,x,f,v,h,hf=>by
    simp only [q1] at h
    have ih:=y7 hz h hf
    rw [p7,List.getElem?_append_right (by rw [hz,o4]; omega),hz,show (i+1) *sz+f - sz=i *sz+f by rw [o4]; omega]
    exact ih
theorem j5 {α:Type} {enc:α->List Value} {sz:Nat} (hz:∀ x,(enc x).length=sz):∀ (ls:List α),(ls.flatMap enc).length=ls.length *sz
  | []=>by simp
  | y::ls=>by rw [p7,List.length_append,hz,j5 hz ls,List.length_cons,o4,Nat.one_mul,Nat.add_comm]
theorem mY {α:Type} {ls:List α} {i:Nat} (h:i < ls.length):∃ x,ls[i]? =some x:=⟨_,p5 h⟩
theorem iM.elem {α:Type} {w:World} {g o:Nat} {enc:α->List Value} {sz:Nat} (hz:∀ x,(enc x).length=sz) {ls:List α} {i:Nat} {x:α} (h:iM w g o (ls.flatMap enc)) (hx:ls[i]? =some x):iM w g (o+i *sz) (enc x):=
  h.sub λ _ _ hj=>y7 hz hx hj
theorem bO.elem {α:Type} {w:World} {A:Option Addr} {n:Nat} {enc:α->List Value} {sz:Nat} (hz:∀ x,(enc x).length=sz) {ls:List α} {i:Nat} {x:α} (h:bO w sz A n (ls.flatMap enc)) (hx:ls[i]? =some x) (hp:0 < sz):iM w (ab A) (ao A+i *sz) (enc x):=by
  have hi:=(p4.1 hx).1
  have hl:=h.1
  rw [j5 hz] at hl
  have hn:0 < n:=by
    rcases Nat.eq_zero_or_pos n with e | e
    . rw [e,q0] at hl
      have:ls.length *sz≠0:=Nat.mul_ne_zero e8 e8
      omega
    . exact e
  exact(h.cls hn).elem hz hx
theorem bO.len {α:Type} {w:World} {A:Option Addr} {n:Nat} {enc:α->List Value} {sz:Nat} (hz:∀ x,(enc x).length=sz) {ls:List α} (h:bO w sz A n (ls.flatMap enc)) (hp:0 < sz):ls.length=n:=by
  have hl:=h.1
  rw [j5 hz] at hl
  exact Nat.eq_of_mul_eq_mul_right hp hl
theorem bO.addr {w:World} {A:Option Addr} {n sz:Nat} {xs:List Value} (h:bO w sz A n xs) {i:Nat} (hi:i < n):A=some ⟨ab A,ao A,none⟩:=h.isSome e8
def eB (b:UInt8):List Value:= [.int .u8 (b.toNat:Int)]
theorem Aj {α:Type} (f:α->Value):∀ l:List α,l.flatMap (λ x=> [f x])=l.map f
  | []=>rfl
  | x::l=>by rw [p7,Aj f l]; rfl
theorem FM (l:List UInt8):q2 eB l=l.map λ b=>Value.int .u8 (b.toNat:Int):=Aj _ l
theorem cZ {α:Type} {enc:α->List Value} (h:∀ x, ∀ u ∈ enc x,u.oneCell'=true) (ls:List α):∀ u ∈ q2 enc ls,u.oneCell'=true:=λ u hu=>by
  obtain⟨x,_,hx⟩:=List.mem_flatMap.1 hu
  exact h x u hx
section
variable {P:Program} {n:Nat} {F:List (Nat × Value)} {w0 w:World} {D:Nat->Prop} {L:List HP} {ty:TypeId} {K:Value->World->Prop} {x:Operand}
theorem JI {src dst e:TypeId} {A:Option Addr} {m c:Nat} {l:List UInt8} (hs:P.underlying src=some (.slice e)) (he:P.underlying e=some (.int .u8)) (hd:P.underlying dst=some .string) (hr:bO w 1 A m (q2 eB l)) (hx:ev F x=some (.slice A m c)):
    Yl P n F w (.convert src dst x) ty (.string ⟨l.toArray⟩):=Ka hs he hd (by rw [<- FM]; exact hr) hx
end
theorem j6 {α:Type} {enc:α->List Value} {sz:Nat} (hz:∀ x,(enc x).length=sz) {x y:α} {f:Nat} {vs:List Value} (hp:put (enc x) f vs=enc y) (hf:f+vs.length<=sz):∀ {ls:List α} {i:Nat},ls[i]? =some x->put (q2 enc ls) (i *sz+f) vs=q2 enc (ls.set i y)
  | [],_,h=>by simp at h
  | z::ls,0,h=>by
    simp only [p6,Option.some.injEq] at h
    subst h
    have hl:=hz z
    rw [List.set_cons_zero,p7,p7, <- hp,q0,Nat.zero_add]
    unfold put
    rw [List.take_append_of_le_length e8,List.drop_append_of_le_length e8]
    simp only [q3]
  | z::ls,i+1,h=>by
    simp only [q1] at h
    have ih:=j6 hz hp hf h
    have hl:=hz z
    rw [List.set_cons_succ,p7,p7, <- ih]
    have e:(i+1) *sz+f=(enc z).length+(i *sz+f):=by rw [hl,o4]; omega
    rw [e]
    unfold put
    rw [q4,show (enc z).length+(i *sz+f)+vs.length=(enc z).length+((i *sz+f)+vs.length) by omega,q5]
    simp only [q3]
section
variable {α:Type} {enc:α->List Value} {sz:Nat}
theorem ul (hz:∀ x,(enc x).length=sz):∀ (ls:List α) (k:Nat),(q2 enc ls).take (k *sz)=q2 enc (ls.take k)
  | [],k=>by simp
  | x::ls,0=>by simp
  | x::ls,k+1=>by
    rw [List.take_succ_cons,p7,p7, <- ul hz ls k]
    have e:(k+1) *sz=(enc x).length+k *sz:=by rw [hz,o4]; omega
    rw [e,q4]
theorem rX (hz:∀ x,(enc x).length=sz):∀ (ls:List α) (k:Nat),(q2 enc ls).drop (k *sz)=q2 enc (ls.drop k)
  | [],k=>by simp
  | x::ls,0=>by simp
  | x::ls,k+1=>by
    rw [List.drop_succ_cons,p7, <- rX hz ls k]
    have e:(k+1) *sz=(enc x).length+k *sz:=by rw [hz,o4]; omega
    rw [e,q5]
theorem bO.cutE {w:World} {A:Option Addr} {m c lo hi:Nat} {ls:List α} (hz:∀ x,(enc x).length=sz) (h:bO w sz A m (q2 enc ls)) (d:lo<=hi) (f:hi<=m) (hc:m<=c):bO w sz (eO A lo sz c) (hi - lo) (q2 enc (List.take (hi - lo) (List.drop lo ls))):=by
  have:=h.cut d f hc
  rw [rX hz,ul hz] at this
  exact this
theorem I7 {w:World} {A:Option Addr} {m c lo:Nat} {ls:List α} (hz:∀ x,(enc x).length=sz) (h:bO w sz A m (q2 enc ls)) (d:lo<=m) (hc:m<=c) (hp:0 < sz):bO w sz (eO A lo sz c) (m - lo) (q2 enc (List.drop lo ls)):=by
  have:=h.cutE hz d (Nat.le_refl m) hc
  rw [List.take_of_length_le (by rw [List.length_drop,h.len hz hp]; exact Nat.le_refl _)] at this
  exact this
end
end
open Nat renaming min_eq_left->q6
section
open Go.RowKit
section
variable {w0 w:World} {D:Nat->Prop} {L L1 L2:List HP} {R:HP} {h:Nat->Option Obj}
theorem j4.mono {h':Nat->Option Obj} (H:j4 L h) (hs:∀ k o,h k=some o->h' k=some o):j4 L h':=
  let ⟨f,a,b,d⟩:=H
  ⟨f,a,λ i k o hk=>hs k o (b i k o hk),d⟩
open Classical in
theorem j4.uncons (H:j4 (R::L) h):∃ a b:Nat->Option Obj,R a/\j4 L b/\(∀ k o,a k=some o->h k=some o)/\(∀ k o,b k=some o->h k=some o)/\∀ k,a k=none\/b k=none:=by
  obtain⟨f,d,l,m⟩:=H
  refine⟨f 0,λ k=>if ∃ i,f (i+1) k≠none then h k else none,d 0 R rfl,⟨λ i=>f (i+1),λ i S hi=>d (i+1) S (by simpa using hi),λ i k o hk=> ?_,λ i j k hne=>m _ _ k e8⟩,l 0,λ k o hk=> ?_,λ k=> ?_⟩
  . show (if ∃ i,f (i+1) k≠none then h k else none)=some o
    have hk':f (i+1) k=some o:=hk
    rw [if_pos ⟨i,by rw [hk']; exact Option.some_ne_none _⟩]
    exact l _ k o hk'
  . by_cases e:∃ i,f (i+1) k≠none
    . simp only [e,if_true] at hk; exact hk
    . simp only [e,if_false] at hk; cases hk
  . by_cases e:∃ i,f (i+1) k≠none
    . obtain⟨i,hi⟩:=e
      rcases m 0 (i+1) k e8 with e | e
      . exact .inl e
      . exact absurd e hi
    . exact .inr (by simp only [e,if_false])
theorem j4.cons {a b:Nat->Option Obj} (hR:R a) (H:j4 L b) (l:∀ k o,a k=some o->h k=some o) (m:∀ k o,b k=some o->h k=some o) (hd:∀ k,a k=none\/b k=none):j4 (R::L) h:=by
  obtain⟨f,p,d,q⟩:=H
  have key:∀ i k,a k=none\/f i k=none:=λ i k=>by
    rcases hd k with e | e
    . exact .inl e
    . right
      cases hi:f i k with
      | none=>rfl
      | some o=>rw [d i k o hi] at e; cases e
  refine⟨λ i=>match i with | 0=>a | i+1=>f i,λ i S hi=> ?_,λ i k o hk=> ?_,λ i j k hne=> ?_⟩
  . cases i with
    | zero=>simp only [p6,Option.some.injEq] at hi; subst hi; exact hR
    | succ i=>simp only [q1] at hi; exact p i S hi
  . cases i with
    | zero=>exact l k o hk
    | succ i=>exact m k o (d i k o hk)
  . cases i with
    | zero=>
      cases j with
      | zero=>exact absurd rfl hne
      | succ j=>exact key j k
    | succ i=>
      cases j with
      | zero=>exact(key i k).symm
      | succ j=>exact q i j k e8
theorem j4.perm (hp:L1.Perm L2):∀ {h},j4 L1 h->j4 L2 h:=by
  induction hp with
  | nil=>
    intro h H
    exact H
  | cons R _ ih=>
    intro h H
    obtain⟨i,r,a,b,c,d,e⟩:=H.uncons
    exact j4.cons a (ih b) c d e
  | swap R S L=>
      intro h H
      obtain⟨i,r,a,b,c,d,e⟩:=H.uncons
      obtain⟨s,j,a',b',c',d',e'⟩:=b.uncons
      obtain⟨hr,hq⟩:∃ q:Nat->Option Obj,q=λ k=>match i k with | some o=>some o | none=>j k:=⟨_,rfl⟩
      have u:∀ k o,i k=some o->hr k=some o:=λ k o hk=>by rw [hq]; simp only [hk]
      have v:∀ k o,j k=some o->hr k=some o:=λ k o hk=>by
        rw [hq]
        rcases e k with f | f
        . simp only [f]; exact hk
        . rw [d' k o hk] at f; cases f
      have p:∀ k o,hr k=some o->i k=some o\/j k=some o:=λ k o hk=>by
        rw [hq] at hk
        cases hh:i k with
        | some o'=>simp only [hh] at hk; exact .inl hk
        | none=>simp only [hh] at hk; exact .inr hk
      refine j4.cons a' (j4.cons a b' u v λ k=> ?_) (λ k o hk=>d k o (c' k o hk)) (λ k o hk=> ?_) λ k=> ?_
      . rcases e k with f | f
        . exact .inl f
        . right
          cases hh:j k with
          | none=>rfl
          | some o=>rw [d' k o hh] at f; cases f
      . rcases p k o hk with hk | hk
        . exact c k o hk
        . exact d k o (d' k o hk)
      . cases hh:s k with
        | none=>exact .inl rfl
        | some o=>
          right
          cases hh':hr k with
          | none=>rfl
          | some o'=>
            rcases p k o' hh' with hk | hk
            . rcases e k with f | f
              . rw [hk] at f; cases f
              . rw [c' k o hh] at f; cases f
            . rcases e' k with f | f
              . rw [hh] at f; cases f
              . rw [hk] at f; cases f
  | trans _ _ l m=>
    intro h H
    exact m (l H)
theorem j4.nil (h:Nat->Option Obj):j4 [] h:=⟨λ _ _=>none,λ i S hi=>(by simp at hi),λ _ _ _ hk=>(by cases hk),λ _ _ _ _=> .inl rfl⟩
open Classical in
theorem j4.app:∀ {L1:List HP} {h},j4 (L1++L2) h↔∃ j l:Nat->Option Obj,j4 L1 j/\j4 L2 l/\(∀ k o,j k=some o->h k=some o)/\(∀ k o,l k=some o->h k=some o)/\∀ k,j k=none\/l k=none
  | [],h=>⟨λ H=>⟨λ _=>none,h,j4.nil _,H,λ _ _ hk=>(by cases hk),λ _ _ hk=>hk,λ _=> .inl rfl⟩,fun⟨_,_,_,H,_,s,_⟩=>H.mono s⟩
  | R::L1,h=>by
    constructor
    . intro H
      obtain⟨j,l,a,b,c,d,e⟩:=j4.uncons (show j4 (R::(L1++L2)) h from H)
      obtain⟨m,i,C,E,r,z,G⟩:=j4.app.1 b
      obtain⟨hr,hq⟩:∃ q:Nat->Option Obj,q=λ k=>match j k with | some o=>some o | none=>m k:=⟨_,rfl⟩
      have u:∀ k o,j k=some o->hr k=some o:=λ k o hk=>by rw [hq]; simp only [hk]
      have v:∀ k o,m k=some o->hr k=some o:=λ k o hk=>by
        rw [hq]
        rcases e k with f | f
        . simp only [f]; exact hk
        . rw [r k o hk] at f; cases f
      have p:∀ k o,hr k=some o->j k=some o\/m k=some o:=λ k o hk=>by
        rw [hq] at hk
        cases hh:j k with
        | some o'=>simp only [hh] at hk; exact .inl hk
        | none=>simp only [hh] at hk; exact .inr hk
      refine⟨hr,i,j4.cons a C u v λ k=> ?_,E,λ k o hk=> ?_,λ k o hk=>d k o (z k o hk),λ k=> ?_⟩
      . rcases e k with f | f
        . exact .inl f
        . right
          cases hh:m k with
          | none=>rfl
          | some o=>rw [r k o hh] at f; cases f
      . rcases p k o hk with hk | hk
        . exact c k o hk
        . exact d k o (r k o hk)
      . cases hh:i k with
        | none=>exact .inr rfl
        | some o=>
          left
          cases hh':hr k with
          | none=>rfl
          | some o'=>
            rcases p k o' hh' with hk | hk
            . rcases e k with f | f
              . rw [hk] at f; cases f
              . rw [z k o hh] at f; cases f
            . rcases G k with f | f
              . rw [hk] at f; cases f
              . rw [hh] at f; cases f
    . rintro ⟨j,l,I,J,B,M,hd⟩
      obtain⟨m,i,a,b,c,d,e⟩:=I.uncons
      obtain⟨hr,hq⟩:∃ q:Nat->Option Obj,q=λ k=>match i k with | some o=>some o | none=>l k:=⟨_,rfl⟩
      have u:∀ k o,i k=some o->hr k=some o:=λ k o hk=>by rw [hq]; simp only [hk]
      have v:∀ k o,l k=some o->hr k=some o:=λ k o hk=>by
        rw [hq]
        cases hh:i k with
        | none=>simp only [hh]; exact hk
        | some o'=>
          rcases hd k with f | f
          . rw [d k o' hh] at f; cases f
          . rw [hk] at f; cases f
      have p:∀ k o,hr k=some o->i k=some o\/l k=some o:=λ k o hk=>by
        rw [hq] at hk
        cases hh:i k with
        | some o'=>simp only [hh] at hk; exact .inl hk
        | none=>simp only [hh] at hk; exact .inr hk
      refine j4.cons (L:=L1++L2) a (j4.app.2 ⟨i,l,b,J,u,v,λ k=> ?_⟩) (λ k o hk=>B k o (c k o hk)) (λ k o hk=> ?_) λ k=> ?_
      . rcases hd k with f | f
        . left
          cases hh:i k with
          | none=>rfl
          | some o=>rw [d k o hh] at f; cases f
        . exact .inr f
      . rcases p k o hk with hk | hk
        . exact B k o (d k o hk)
        . exact M k o hk
      . cases hh:m k with
        | none=>exact .inl rfl
        | some o=>
          right
          cases hh':hr k with
          | none=>rfl
          | some o'=>
            rcases p k o' hh' with hk | hk
            . rcases e k with f | f
              . rw [hh] at f; cases f
              . rw [hk] at f; cases f
            . rcases hd k with f | f
              . rw [c k o hh] at f; cases f
              . rw [hk] at f; cases f
def sepL (L:List HP):HP:=λ h=>j4 L h
theorem Own.to (H:Own w0 D w L1) (k:∀ h,j4 L1 h->j4 L2 h):Own w0 D w L2:=
  let ⟨h,a,b⟩:=H.own
  ⟨H.os,H.tape,H.output,H.size,H.keep,h,a,k h b⟩
theorem Own.perm (H:Own w0 D w L1) (hp:L1.Perm L2):Own w0 D w L2:=H.to λ _ h=>h.perm hp
theorem Own.flat (H:Own w0 D w (sepL L1::L2)):Own w0 D w (L1++L2):=H.to λ h hs=>by
  obtain⟨f,i,a,b,c,d,e⟩:=hs.uncons
  exact j4.app.2 ⟨f,i,a,b,c,d,e⟩
theorem Own.pack (H:Own w0 D w (L1++L2)):Own w0 D w (sepL L1::L2):=H.to λ h hs=>by
  obtain⟨f,i,a,b,c,d,e⟩:=j4.app.1 hs
  exact j4.cons a b c d e
theorem Own.open {α:Type} {S:α->List HP} (H:Own w0 D w (R::L)) (k:∀ h,R h->∃ x,j4 (S x) h):∃ x,Own w0 D w (S x++L):=by
  obtain⟨h,i,hs⟩:=H.own
  obtain⟨a,b,c,d,e,f,g⟩:=hs.uncons
  obtain⟨x,hx⟩:=k a c
  exact⟨x,H.os,H.tape,H.output,H.size,H.keep,h,i,j4.app.2 ⟨a,b,hx,d,e,f,g⟩⟩
theorem KD (H:Own w0 D w (L1++L)) (k:∀ h,j4 L1 h->R h):Own w0 D w (R::L):=H.to λ h hs=>by
  obtain⟨a,b,c,d,e,f,g⟩:=j4.app.1 hs
  exact j4.cons (k a c) d e f g
theorem Own.sepNil (H:Own w0 D w L):Own w0 D w (sepL []::L):=Own.pack (L1:= []) H
end
section
variable {w:World} {A:Option Addr} {n c sz:Nat} {xs:List Value} {t:TypeId} {g:Nat} {cs:List Value}
theorem bP (w:World) (h:Nat->Option Obj) (hr:row A n c xs t sz h) (a:∀ k o,h k=some o->w.heap[k]? =some o):bO w sz A n xs:=by
  obtain⟨hl,hr⟩:=hr
  refine⟨hl,λ hn=> ?_⟩
  rcases hr with ⟨_,d,_⟩ | ⟨g,cur,fz,rfl,b,_,_,_,htk,_⟩
  . omega
  . refine⟨rfl,λ j u hj=> ?_⟩
    have hg:=a g _ b
    show w.cell? ⟨g,0+j,none⟩=some u
    rw [cell_of_row w g (0+j) _ t fz hg,Nat.zero_add, <- Array.getElem?_toList]
    rw [<- htk,m3] at hj
    split at hj
    . exact hj
    . cases hj
theorem Dc (a b:UInt8):IntKind.u8.wrap ((a.toNat:Int)+(b.toNat:Int))=((a+b).toNat:Int):=by
  rw [UInt8.toNat_add]
  have d:a.toNat < 256:=a.toNat_lt
  have f:b.toNat < 256:=b.toNat_lt
  simp [IntKind.wrap,IntKind.signed,IntKind.bits]
theorem dG {α:Type} {enc:α->List Value} {ls:List α} {i:Nat} (hz:∀ x,(enc x).length=sz) (hp:0 < sz) (p:bO w sz A n (List.flatMap enc ls)) (hi:i < n):∃ x,ls[i]? =some x:=by
  have h:=p.1
  rw [j5 hz] at h
  exact⟨_,List.getElem?_eq_getElem (by rw [Nat.eq_of_mul_eq_mul_right hp h]; exact hi)⟩
theorem jA {α:Type} {enc:α->List Value} (hz:∀ x,(enc x).length=sz) {ls:List α} {i f m:Nat} {x:α} (hx:ls[i]? =some x) (hf:f+m<=sz):i *sz+f+m<=(List.flatMap enc ls).length:=by
  have hi:=(List.getElem?_eq_some_iff.1 hx).1
  rw [j5 hz]
  have:(i+1) *sz<=ls.length *sz:=m7 _ hi
  rw [Nat.add_mul] at this
  omega
theorem bZ (t:TypeId) (sz:Nat):row none 0 0 [] t sz λ _=>none:=⟨by simp, .inl ⟨rfl,rfl,rfl⟩⟩
theorem dC {w0:World} {D:Nat->Prop} {L:List HP} {R:HP} {i:Nat} {φ:World->Prop} (H:Own w0 D w L) (hi:L[i]? =some R) (f:∀ w' h,R h->(∀ k o,h k=some o->w'.heap[k]? =some o)->φ w'):φ w:=
  let ⟨h,a,b⟩:=H.get hi
  f w h a b
theorem E5 {L:List HP} {R:HP} {i:Nat} {φ:World->Prop} (hi:L[i]? =some R) (f:∀ w' h,R h->(∀ k o,h k=some o->w'.heap[k]? =some o)->φ w'):∀ w' h,sepL L h->(∀ k o,h k=some o->w'.heap[k]? =some o)->φ w':=λ w' h hs a=>
  let ⟨g,b,d,_⟩:=hs
  f w' (g i) (b i R hi) λ k o hk=>a k o (d i k o hk)
end
section
variable {P:Program} {n:Nat} {F:List (Nat × Value)} {w0 w:World} {D:Nat->Prop} {L:List HP} {ty T:TypeId} {K:Value->World->Prop} {x y:Operand} {t e:TypeId} {xs ys news:List Value}
theorem uE {sz k m c:Nat} {B:Option Addr} (hr:bO w sz B m news) (hk:k<=m):(Builtin.firstCells sz k (.slice B m c)).run P w= .ok (news.take (k *sz)).toArray w:=by
  have hl:(news.take (k *sz)).length=k *sz:=by
    rw [m8,hr.1]
    exact q6 (m7 _ hk)
  rcases B with _ | b
  . have d:m=0:=by
      rcases o2 m with e | e
      . exact e
      . have:=hr.isSome e; cases this
    have a:k=0:=by omega
    subst a
    simp [Builtin.firstCells]
  . refine run_firstCells_some w sz k b m c _ hl λ j v hj=> ?_
    rw [m3] at hj
    split at hj
    . have hm:0 < m:=by
        rcases o2 m with e | e
        . rw [hr.1.trans (by rw [e,Nat.zero_mul]) |> List.eq_nil_of_length_eq_zero] at hj; simp at hj
        . exact e
      have hb:=hr.isSome hm
      injection hb with hb
      rw [hb,add0]
      exact hr.cell hj
    . cases hj
theorem Le {A Ad B:Option Addr} {q c nd cd m cm lo k size bytes:Nat} {tx:TypeId} (el:Elem P t e size bytes) (H:Own w0 D w (row A q c xs e size::L)) (hx:ev F x=some (.slice Ad nd cd)) (hA:0 < nd->Ad=some ⟨ab A,ao A+lo *size,none⟩) (hfit:lo+nd<=q)
    (hy:ev F y=some (.slice B m cm)) (hr:bO w size B m news) (j:∀ u ∈ news,u.oneCell'=true) (hk:min m nd=k) (hys:put xs (lo *size) (news.take (k *size))=ys) (h:∀ w',Own w0 D w' (row A q c ys e size::L)->K (.int .i64 (k:Int)) w'):
    Do P n F w (.call ⟨.builtin .copy, [x,y].toArray, [t,tx].toArray⟩) ty K:=λ a ha o l p next Q hn=>by
  obtain⟨i,z,ht,hi,hz,rfl,rfl,hzs,hsz⟩:=el
  have hfc:=uE (P:=P) (k:=k) (c:=cm) hr e8
  have hlen:(news.take (k *i.size)).length=k *i.size:=by
    rw [m8,hr.1]
    exact q6 (m7 _ e8)
  have hxl:=H.rowLe (i:=0) rfl
  have key:∃ w',(match Ad with | some a=>storeCells a (news.take (k *i.size)) 0 | none=>pure ()).run P w= .ok () w'/\Own w0 D w' (row A q c ys e i.size::L):=by
    rcases o2 k with d | d
    . subst d
      have f:news.take (0 *i.size)= []:=by simp
      rw [f] at hys ⊢
      have:ys=xs:=by rw [<- hys]; simp [put]
      subst this
      refine⟨w, ?_,H⟩
      cases Ad <;> rfl
    . have hnd:0 < nd:=by omega
      have hAd:=hA hnd
      subst hAd
      have hpos:0 < (news.take (k *i.size)).length:=by rw [hlen]; exact Nat.mul_pos d hsz
      exact H.storeRow (P:=P) (by rw [List.all_eq_true]; exact λ u hu=>j u (List.mem_of_mem_take hu)) hpos (by
        rw [hlen,hxl.2.2, <- Nat.add_mul]
        exact m7 _ e8) hys
  obtain⟨w',hst,H'⟩:=key
  unfold execOp
  rw [l]
  have hrun:(Builtin.copy_ #[t,tx] o.type #[.slice Ad nd cd, .slice B m cm]).run P w= .ok (.int .i64 (k:Int)) w':=by
    simp only [Builtin.copy_,List.getElem?_toArray,p6,q1,Sem.run_bind,run_underlying ht,Result.andThen_ok,Builtin.lenOf,Sem.run_pure,sizeOf,typeInfo]
    have hmin:Nat.min m nd=k:=hk
    simp [hi,hmin,hfc,Result.andThen]
    cases Ad with
    | none=>
      simp only [Sem.run_pure] at hst
      injection hst with _ hw
      subst hw
      rfl
    | some b=>
      simp only at hst
      simp [hst,Result.andThen,goInt]
  simp only [resolve,invoke,builtin,Sem.run_bind,Sem.run_pure,Result.andThen_ok,List.map_toArray,List.map_cons,List.map_nil,ha.eval hx,ha.eval hy,hrun]
  exact hn _ _ (h w' H')
end
theorem Own.rowTake {w0 w:World} {D:Nat->Prop} {L:List HP} {A:Option Addr} {n k c sz:Nat} {xs ys:List Value} {t:TypeId} (H:Own w0 D w (row A n c xs t sz::L)) (hk:k<=n) (hys:xs.take (k *sz)=ys):Own w0 D w (row A k c ys t sz::L):=
  H.imp λ h ⟨hl,hr⟩=>by
    have e:k *sz<=n *sz:=m7 _ hk
    refine⟨by rw [<- hys,m8,hl]; omega, ?_⟩
    rcases hr with ⟨a,b,c⟩ | ⟨g,cur,fz,a,b,c,d,e',f,g'⟩
    . exact .inl ⟨a,e8,c⟩
    . exact .inr ⟨g,cur,fz,a,b,e8,d,e',by rw [<- hys, <- f,List.take_take,q6 e],g'⟩
theorem K3 {w0 w:World} {D:Nat->Prop} {L:List HP} {R:HP} (H:Own w0 D w (R::L)):Own w0 D w L:=H.to λ h hs=>by
  obtain⟨_,a,_,b,_,d,_⟩:=hs.uncons
  exact b.mono d
def FN {ι:Type} (φ:ι->Prop) (S:ι->List HP):HP:=λ h=> ∃ i,φ i/\j4 (S i) h
theorem JS {w0 w:World} {D:Nat->Prop} {L:List HP} {ι:Type} {φ:ι->Prop} {S:ι->List HP} (H:Own w0 D w (FN φ S::L)):∃ i,φ i/\Own w0 D w (S i++L):=by
  obtain⟨i,hi⟩:=H.open (S:=λ i: { i // φ i } =>S i.1) λ h ⟨i,a,b⟩=>⟨⟨i,a⟩,b⟩
  exact⟨i.1,i.2,hi⟩
theorem JE {w0 w:World} {D:Nat->Prop} {L:List HP} {ι:Type} {φ:ι->Prop} {S:ι->List HP} (i:ι) (h:φ i) (H:Own w0 D w (S i++L)):Own w0 D w (FN φ S::L):=
  KD (L1:=S i) H λ _ hs=>⟨i,h,hs⟩
end
open List renaming getElem?_map->r8,length->q7,length_cons->r5,length_map->r7,mem_append_left->r6
section
open Go.RowKit Go.ChangeShapes Go.WideShapes Go.Deep
theorem BQ {α:Type} {Q:Nat->α->Prop}:∀ n,(∀ i,i < n->∃ o,Q i o)->∃ os:List α,os.length=n/\∀ i o,os[i]? =some o->Q i o
  | 0,_=>⟨[],rfl,λ i o h=>by simp at h⟩
  | n+1,h=>by
    obtain⟨os,hl,hq⟩:=BQ n λ i hi=>h i e8
    obtain⟨o,ho⟩:=h n e8
    refine⟨os++ [o],by simp [hl],λ i p hp=> ?_⟩
    by_cases e:i < n
    . rw [List.getElem?_append_left e8] at hp
      exact hq i p hp
    . rw [List.getElem?_append_right e8] at hp
      obtain⟨hk,rfl⟩:=p4.1 hp
      simp at hk
      have:i=n:=by omega
      subst this
      simpa using ho
abbrev Bk (α:Type):=HShiftLeft α Unit Nat
abbrev bk {α:Type} [Bk α] (x:α):Nat:=HShiftLeft.hShiftLeft x ()
instance:Bk Nat:=⟨λ _ _=>1⟩
instance:Bk Int:=⟨λ _ _=>1⟩
instance:Bk Bool:=⟨λ _ _=>1⟩
instance:Bk UInt8:=⟨λ _ _=>1⟩
instance:Bk (List UInt8):=⟨λ s _=>q7 s+1⟩
instance:Bk Unit:=⟨λ _ _=>0⟩
instance {α β:Type} [Bk α] [Bk β]:Bk (α × β):=⟨λ p _=>bk p.1+bk p.2⟩
theorem tC {H:Type} (d:DataW H):1<=Rows.uptoBulk d:=by
  cases d with
  | lit l=>cases l <;> simp [Rows.uptoBulk]
  | nil=>simp [Rows.uptoBulk]
  | ptr d=>simp [Rows.uptoBulk]
  | slice elems spare=>simp [Rows.uptoBulk]
  | agg parts=>simp [Rows.uptoBulk]
  | iface t d=>simp [Rows.uptoBulk]
  | map entries=>simp [Rows.uptoBulk]
  | held h=>simp [Rows.uptoBulk]
theorem Ak {H:Type}:∀ l:List (DataW H),q7 l<=Rows.uptoBulkAll l
  | []=>by simp [Rows.uptoBulkAll]
  | x::r=>by
    have:=tC x
    have:=Ak r
    simp only [Rows.uptoBulkAll,r5]
    omega
theorem Al {α H:Type} [Bk α]:∀ (os:List α) (D:Nat->DataW H),(∀ i o,os[i]? =some o->bk o<=Rows.uptoBulk (D i))->(os.map bk).sum<=Rows.uptoBulkAll ((List.range os.length).map D)
  | [],_,_=>Lm _
  | o::r,D,h=>by
    have a:=h 0 o rfl
    have:=Al r (λ i=>D (i+1)) λ i p hp=>h (i+1) p (by rw [List.getElem?_cons_succ]; exact hp)
    rw [r5,List.range_succ_eq_map]
    simp only [List.map_cons,List.map_map,List.sum_cons,Rows.uptoBulkAll]
    exact Nat.add_le_add a this
def kQ {α:Type} [Bk α] (P:Program) (w:World) (t:TypeId) (sz:Nat) (enc:α->List Value) (Ok:α->Prop):Prop:=
  P.cellsOf t=sz/\(∀ x,(enc x).length=sz)/\∀ (H:Type) (e:TypeId × Value->H) (held:Bool) (fuel:Nat) (cs:List Value) (x:DataW H × List MemPlace),
    DataW.trod e P w 0 (λ _=>true) held fuel t cs=some x->(∀ m ∈ x.1.weights P t,m<=140737488351232)->∃ o,cs=enc o/\Ok o/\bk o<=Rows.uptoBulk x.1
structure Sv (β:Type) where
  A:Option Addr
  c:Nat
  ls:List β
instance {β:Type} [Bk β]:Bk (Sv β):=⟨λ s _=>(s.ls.map bk).sum+(s.c - s.ls.length)+1⟩
def J5 {β:Type} (s:Sv β):List Value:= [.slice s.A (q7 s.ls) s.c]
def mM {β:Type} (w:World) (sz bytes:Nat) (enc:β->List Value) (Ok:β->Prop) (s:Sv β):Prop:=
  q7 s.ls<=s.c/\s.c *bytes<=140737488351232/\bO w sz s.A (q7 s.ls) (List.flatMap enc s.ls)/\∀ y ∈ s.ls,Ok y
def eI (k:IntKind) (n:Int):List Value:= [.int k n]
def eN (k:IntKind) (n:Nat):List Value:= [.int k (n:Int)]
def eL (b:Bool):List Value:= [.bool b]
def eS (s:List UInt8):List Value:= [.string ⟨List.toArray s⟩]
theorem wo {k:IntKind}:∀ x,(eI k x).length=1:=λ _=>rfl
theorem gT {k:IntKind}:∀ x,(eN k x).length=1:=λ _=>rfl
theorem Am:∀ x,(eL x).length=1:=λ _=>rfl
theorem FO:∀ x,(eS x).length=1:=λ _=>rfl
theorem FP {v:Value} (h:v.oneCell'=true):∀ u ∈ [v],u.oneCell'=true:=λ u hu=>by rw [List.mem_singleton.1 hu]; exact h
theorem mi {k:IntKind}:∀ x, ∀ u ∈ eN k x,u.oneCell'=true:=λ _=>FP rfl
section
variable {P:Program} {w:World} {t e:TypeId}
theorem BR {k:IntKind} {n:Int} (h:(Lit.int k n).wf=true):k.min<=n/\n<=k.max:=by
  simpa [Lit.wf] using h
theorem nA {k:IntKind} {lo hi:Int} (hu:P.underlying t=some (.int k)) (hc:P.cellsOf t=1) (a:k.min=lo) (b:k.max=hi):kQ P w t 1 (eI k) λ n=>lo<=n/\n<=hi:=
  ⟨hc,wo,λ H e held fuel cs x h _=>by
    obtain⟨n,rfl,_,hw⟩:=DataW.trod_int hu h
    subst a b
    exact⟨n,rfl,BR hw,tC _⟩⟩
theorem nC {k:IntKind} {hi:Nat} (hu:P.underlying t=some (.int k)) (hc:P.cellsOf t=1) (a:k.min=0) (b:k.max=(hi:Int)):kQ P w t 1 (eN k) λ n=>n<=hi:=
  ⟨hc,gT,λ H e held fuel cs x h _=>by
    obtain⟨n,rfl,_,hw⟩:=DataW.trod_int hu h
    have:=BR hw
    rw [a,b] at this
    refine⟨n.toNat, ?_,e8,tC _⟩
    unfold eN
    rw [show (n.toNat:Int)=n by omega]⟩
theorem sO (hu:P.underlying t=some .bool) (hc:P.cellsOf t=1):kQ P w t 1 eL λ _=>True:=
  ⟨hc,Am,λ H e held fuel cs x h _=>by
    obtain⟨b,rfl,_⟩:=DataW.trod_bool hu h
    exact⟨b,rfl,trivial,tC _⟩⟩
theorem kW (hu:P.underlying t=some .string) (hc:P.cellsOf t=1):kQ P w t 1 eS λ s=>q7 s<=140737488351232:=
  ⟨hc,FO,λ H e held fuel cs x h hs=>by
    obtain⟨s,rfl,hx,_⟩:=DataW.trod_string hu h
    refine⟨s.data.toList, ?_,hs _ (by rw [hx]; simp [DataW.weights]),by rw [hx]; exact Nat.le_of_eq rfl⟩
    simp [eS]⟩
theorem uF {H:Type} {d:DataW H} {m:Nat}:∀ {ds:List (DataW H)},d ∈ ds->m ∈ d.weights P e->m ∈ DataW.weightsAll P e ds
  | [],h,_=>by cases h
  | x::r,h,hm=>by
    unfold DataW.weightsAll
    rcases List.mem_cons.1 h with rfl | h
    . exact r6 _ hm
    . exact List.mem_append_right _ (uF h hm)
theorem oI {β:Type} [Bk β] {sz bytes:Nat} {enc:β->List Value} {Ok:β->Prop} (hu:P.underlying t=some (.slice e)) (hc:P.cellsOf t=1) (hb:P.bytesOf e=bytes) (hz:0 < sz) (he:kQ P w e sz enc Ok):kQ P w t 1 J5 (mM w sz bytes enc Ok):=
  ⟨hc,λ _=>rfl,λ H e' held fuel cs x h hs=>by
    obtain⟨hC,hE,hop⟩:=he
    rcases open_slice hu h with ⟨rfl,_⟩ | ⟨a,len,cap,m,n,D,Pl,rfl,_,hl,hm,hmm,hx,hi⟩
    . exact⟨⟨none,0, []⟩,rfl,⟨Nat.le_refl _,by simp,bO.nil _ _ _,λ y hy=>by cases hy⟩,tC _⟩
    . have hmm:m=cap:=by rw [hmm]; simp
      subst hmm
      rw [hx] at hs
      have f:m *bytes<=140737488351232:=by
        have:=hs ((len+(m - len)) *P.bytesOf e) (by simp [DataW.weights,hu])
        rw [hb,show len+(m - len)=m by omega] at this
        exact this
      have g:∀ i,i < len->∀ k ∈ (D i).weights P e,k<=140737488351232:=λ i hil k hk=>by
        refine hs k ?_
        simp only [DataW.weights,hu]
        refine List.mem_cons_of_mem _ (r6 _ (uF (d:=D i) ?_ hk))
        rw [List.mem_map]
        exact⟨i,List.mem_range.2 hil,rfl⟩
      have each:∀ i,i < len->∃ o:β,w.cells? 0 (a.add (i *sz)) sz=some (enc o)/\Ok o/\bk o<=Rows.uptoBulk (D i):=λ i hil=>by
        obtain⟨cs',hcc,ht⟩:=hi i e8
        rw [hC] at hcc
        obtain⟨o,rfl,ho⟩:=hop _ _ _ _ _ _ ht (g i hil)
        exact⟨o,hcc,ho⟩
      obtain⟨os,hol,hos⟩:=BQ len each
      obtain⟨b,off,spot⟩:=a
      subst hol
      refine⟨⟨some ⟨b,off,spot⟩,m,os⟩,rfl,⟨hl,f,⟨j5 hE os,λ hn=> ?_⟩,λ y hy=> ?_⟩, ?_⟩
      . have hsp:spot=none:=by
          obtain⟨z,A,_⟩:=each 0 hn
          obtain⟨_,_,hat⟩:=World.cells?_some A
          have c:=hat 0 hz
          rw [Nat.zero_mul] at c
          have B:(Addr.add (Addr.add ⟨b,off,spot⟩ 0) 0)=⟨b,off,spot⟩:=by simp [Addr.add]
          rw [B] at c
          have hex:∃ v,(enc z)[0]? =some v:=⟨_,p5 (by rw [hE]; exact hz)⟩
          obtain⟨v,hv⟩:=hex
          rw [hv] at c
          exact World.cell?_spot c
        subst hsp
        refine⟨rfl,λ j u hj=> ?_⟩
        have hjl:=(p4.1 hj).1
        rw [j5 hE] at hjl
        have hd:j / sz < os.length:=Nat.div_lt_of_lt_mul (by rw [Nat.mul_comm]; exact hjl)
        have hr:j % sz < sz:=Nat.mod_lt _ hz
        have ej:j=j / sz *sz+j % sz:=by rw [Nat.mul_comm]; exact(Nat.div_add_mod j sz).symm
        have hoi:=hos (j / sz) _ (p5 hd)
        have hv:(enc os[j / sz])[j % sz]? =some ((enc os[j / sz])[j % sz]'(by rw [hE]; exact hr)):=p5 _
        have hfl:=y7 (enc:=enc) hE (p5 hd) hv
        rw [<- ej,hj] at hfl
        injection hfl with hfl
        obtain⟨_,_,hat⟩:=World.cells?_some hoi.1
        have l:=hat (j % sz) hr
        rw [Go.Deep.add_add,hv, <- ej] at l
        rw [hfl]
        show w.cell? ⟨b,off+j,none⟩=_
        rw [<- l,add0]
      . obtain⟨i,q,s⟩:=List.getElem_of_mem hy
        exact(hos i y (by rw [p5 q,s])).2.1
      . rw [hx]
        have l:=Al os D λ i o h=>(hos i o h).2.2
        have C:=Ak (H:=H) ((List.range (m - os.length)).map λ i=>D (os.length+i))
        rw [r7,List.length_range] at C
        show (os.map bk).sum+(m - os.length)+1<=Rows.uptoBulk (.slice _ _)
        simp only [Rows.uptoBulk]
        omega⟩
def fF {α:Type} [Bk α] (P:Program) (w:World) (fs:Array Field) (i off sz:Nat) (enc:α->List Value) (Ok:α->Prop):Prop:=
  (∀ x,(enc x).length=sz)/\∀ (H:Type) (e:TypeId × Value->H) (held:Bool) (n:Nat) (cs:List Value) (ys:List (DataW H × List MemPlace)),
    (∀ (j:Nat) (f:Field),fs[j]? =some f->DataW.trod e P w 0 (λ _=>true) held n f.type ((cs.drop f.offset).take (P.cellsOf f.type))=ys[j]?)->ys.length=fs.size->
    (∀ (j:Nat) (f:Field) y,fs[j]? =some f->ys[j]? =some y->∀ m ∈ y.1.weights P f.type,m<=140737488351232)->cs.length=off+sz->∃ o,cs.drop off=enc o/\Ok o/\bk o<=Rows.uptoBulkAll ((ys.map (·.1)).drop i)
theorem fF.nil {fs:Array Field} {i off:Nat}:fF P w fs i off 0 (λ _:Unit=> []) λ _=>True:=
  ⟨λ _=>rfl,λ H e held n cs ys _ _ _ hl=>⟨(),by rw [List.drop_eq_nil_of_le e8],trivial,Lm _⟩⟩
theorem fF.cons {α β:Type} [Bk α] [Bk β] {fs:Array Field} {i off s sz:Nat} {enc:α->List Value} {Ok:α->Prop} {enc':β->List Value} {Ok':β->Prop} {f:Field} (hf:fs[i]? =some f) (ho:f.offset=off) (a:kQ P w f.type s enc Ok)
    (g:fF P w fs (i+1) (off+s) sz enc' Ok'):fF P w fs i off (s+sz) (λ p:α × β=>enc p.1++enc' p.2) λ p=>Ok p.1/\Ok' p.2:=
  ⟨λ x=>by rw [List.length_append,a.2.1,g.1],λ H e held n cs ys ht hy hw hl=>by
    obtain⟨b,j,k2,k⟩:=g.2 H e held n cs ys ht hy hw e8
    have hi:i < fs.size:=by
      rcases Nat.lt_or_ge i fs.size with h | h
      . exact h
      . rw [Array.getElem?_eq_none h] at hf; cases hf
    have hyi:ys[i]? =some (ys[i]'(by rw [hy]; exact hi)):=p5 _
    have hti:=ht i f hf
    rw [hyi,ho,a.1] at hti
    obtain⟨c,l,m,o⟩:=a.2.2 H e held n _ _ hti (hw i f _ hf hyi)
    refine⟨(c,b), ?_,⟨m,k2⟩, ?_⟩
    rotate_left
    . have hi':i < (ys.map (·.1)).length:=by rw [r7,hy]; exact hi
      rw [List.drop_eq_getElem_cons hi',List.getElem_map]
      show bk c+bk b<=_
      simp only [Rows.uptoBulkAll]
      exact Nat.add_le_add o k
    show List.drop off cs=enc c++enc' b
    rw [<- l, <- j, <- List.drop_drop,List.take_append_drop]⟩
theorem mO {α:Type} [Bk α] {fs:Array Field} {sz:Nat} {enc:α->List Value} {Ok:α->Prop} (hu:P.underlying t=some (.struct fs)) (hc:P.cellsOf t=sz) (h:fF P w fs 0 0 sz enc Ok):kQ P w t sz enc Ok:=
  ⟨hc,h.1,λ H e held fuel cs x hx hs=>by
    obtain⟨ys,n,_,rfl,hl,hy,ht⟩:=DataW.trod_struct hu hx
    have hw:∀ (j:Nat) (f:Field) y,fs[j]? =some f->ys[j]? =some y->∀ m ∈ y.1.weights P f.type,m<=140737488351232:=λ j f y hj hyj m hm=>by
      refine hs m ?_
      simp only [DataW.weights,hu]
      exact DataW.weights_mem_each (j:=j) (by rw [r8,Array.getElem?_toList,hj]; rfl) (by rw [r8,hyj]; rfl) m hm
    obtain⟨o,a,b,c⟩:=h.2 H e held n cs ys ht hy hw (by rw [hl,hc,Nat.zero_add])
    refine⟨o,by rw [<- a,List.drop_zero],b, ?_⟩
    rw [List.drop_zero] at c
    show bk o<=Rows.uptoBulk (.agg _)
    simp only [Rows.uptoBulk]
    omega⟩
theorem kQ.map {α β:Type} [Bk α] [Bk β] {sz:Nat} {enc:α->List Value} {Ok:α->Prop} {enc':β->List Value} {Ok':β->Prop} (h:kQ P w t sz enc Ok) (g:α->β) (hl:∀ x,(enc' x).length=sz) (he:∀ o,enc o=enc' (g o)) (hk:∀ o,Ok o->Ok' (g o)) (hb:∀ o,bk (g o)<=bk o):kQ P w t sz enc' Ok':=
  ⟨h.1,hl,λ H e held fuel cs x hx hs=>by
    obtain⟨o,rfl,k,b⟩:=h.2.2 H e held fuel cs x hx hs
    exact⟨g o,he o,hk o k,Nat.le_trans (hb o) b⟩⟩
variable {α:Type} [Bk α] {sz:Nat} {enc:α->List Value} {Ok:α->Prop} {H:Type} {en:TypeId × Value->H} {held:Bool} {v:Value} {d:DataW H} {p:List MemPlace} {r:Reach} {b0:Nat}
theorem kQ.one (h:kQ P w t sz enc Ok) (hd:DataW.Trod en P w 0 (λ _=>true) held t v d p) (hs:∀ m ∈ d.weights P t,m<=140737488351232):∃ o,v.cells.toList=enc o/\Ok o/\bk o<=Rows.uptoBulk d:=by
  obtain⟨fuel,hf⟩:=hd
  exact h.2.2 H en held fuel _ _ hf hs
theorem kQ.arg1 (h:kQ P w t 1 enc Ok) (hd:DataW.Trod en P w 0 (λ _=>true) held t v d p) (hs:∀ m ∈ d.weights P t,m<=140737488351232) (hv:v.cells= #[v]):∃ o,enc o= [v]/\Ok o/\bk o<=Rows.uptoBulk d:=by
  obtain⟨o,e,k⟩:=h.one hd hs
  exact⟨o,by rw [<- e,hv],k⟩
theorem kQ.argSlice (h:kQ P w t 1 enc Ok) (hu:P.underlying t=some (.slice e)) (hv:Value.okWide P w r b0 t v) (hd:DataW.Trod en P w 0 (λ _=>true) held t v d p) (hs:∀ m ∈ d.weights P t,m<=140737488351232):∃ o,enc o= [v]/\Ok o/\bk o<=Rows.uptoBulk d:=by
  obtain⟨_,_,_,rfl⟩:=okWide_slice hu hv
  exact h.arg1 hd hs rfl
theorem Ao {ts:List TypeId} {ds:List (DataW H)} (h:(DataW.weightsEach P ts ds).all (· <=reachBytes)=true) {j:Nat} (ht:ts[j]? =some t) (hd:ds[j]? =some d):∀ m ∈ d.weights P t,m<=140737488351232:=λ m hm=>by
  have:=List.all_eq_true.1 h _ (DataW.weights_mem_each ht hd m hm)
  exact of_decide_eq_true this
end
end
section
open Go.RowKit
def fU (P:Program) (k:Nat) (t:TypeId) (x y:Value) (b:Bool):Prop:=∀ (d:Nat) (w:World),(Op.equalIn (d+k) t x y).run P w= .ok b w
def fq (P:Program) (k:Nat) (xs ys:Array Value) (fs:List Field) (b:Bool):Prop:=∀ (d:Nat) (w:World),(Op.eqFields (d+k) xs ys fs).run P w= .ok b w
section
variable {P:Program} {k:Nat} {t:TypeId} {x y:Value} {xs ys:Array Value} {fs:List Field} {f:Field} {p q:Prop} [Decidable p] [Decidable q]
theorem fU.up {j:Nat} {b:Bool} (h:fU P k t x y b) (hj:k<=j):fU P j t x y b:=λ d w=>by
  have:=h (d+(j - k)) w
  rwa [show d+(j - k)+k=d+j by omega] at this
theorem fq.up {j:Nat} {b:Bool} (h:fq P k xs ys fs b) (hj:k<=j):fq P j xs ys fs b:=λ d w=>by
  have:=h (d+(j - k)) w
  rwa [show d+(j - k)+k=d+j by omega] at this
theorem fU.int {ki ki':IntKind} {a b:Int} (h:P.underlying t=some (.int ki')):fU P 1 t (.int ki a) (.int ki b) (decide (a=b)):=λ d w=>by
  rw [run_equalIn_int w d t ki ki' a b h]; first | done | rfl
theorem fU.bool {a b:Bool} (h:P.underlying t=some .bool):fU P 1 t (.bool a) (.bool b) (decide (a=b)):=λ d w=>by
  rw [run_equalIn_bool' w d t a b h]; cases a <;> cases b <;> rfl
theorem fU.string {a b:List UInt8} (h:P.underlying t=some .string):fU P 1 t (.string ⟨a.toArray⟩) (.string ⟨b.toArray⟩) (decide (a=b)):=λ d w=>by
  rw [run_equalIn_string w d t _ _ h,ByteArray.toList_mk,ByteArray.toList_mk,sN]
theorem fq.nil:fq P 0 xs ys [] true:=λ d w=>rfl
theorem fq.cons {u v:Value} {a b:Bool} (hn:decide (f.name= "_")=false) (hu:∀ w,(part f.type xs f.offset).run P w= .ok u w) (hv:∀ w,(part f.type ys f.offset).run P w= .ok v w) (he:fU P k f.type u v a) (hr:fq P k xs ys fs b):fq P k xs ys (f::fs) (a && b):=λ d w=>by
  have hn':f.name≠ "_" :=of_decide_eq_false hn
  rw [Op.eqFields,if_pos hn']
  simp only [Sem.run_bind,hu,hv,he d,Result.andThen_ok]
  cases a
  . simp [Sem.run_pure]
  . simp only [Bool.not_true,Bool.false_eq_true,if_false,Bool.true_and]; exact hr d w
theorem I6 {b:Bool} (h:fq P k xs ys fs b) (hb:b=decide p):fq P k xs ys fs (decide p):=hb ▸ h
theorem fU.struct {b:Bool} (ht:P.underlying t=some (.struct fs.toArray)) (hp:P.stoodInHeld t=false) (h:fq P k xs ys fs b):fU P (k+1) t (.agg xs) (.agg ys) b:=λ d w=>by
  have hf:P.fieldsOf t=fs.toArray:=by simp [Program.fieldsOf,ht]
  have:=run_equalIn_struct (P:=P) w (d+k) t xs ys (by rw [hf]; exact ht) hp
  rw [show d+(k+1)=d+k+1 by omega,this,hf]
  exact h d w
theorem fA:(decide p && decide q)=decide (p/\q):=(Bool.decide_and p q).symm
theorem kN:(decide p && true)=decide p:=Bool.and_true _
variable {n:Nat} {F:List (Nat × Value)} {w:World} {ty yt:TypeId} {xo yo:Operand} {b:Bool}
theorem J6 (hx:ev F xo=some (.agg xs)) (hy:ev F yo=some (.agg ys)) (hg:P.eqGuardType P.depth t=false) (hk:Nat.ble k 10000=true) (he:fU P k t (.agg xs) (.agg ys) b):Yl P n F w (.binOp .eql t xo yo yt) ty (.bool b):=λ a ha o c _=>by
  unfold execOp
  rw [c]
  have hk':k<=10000:=Lh hk
  have:=he (10000 - k) w
  rw [show 10000 - k+k=10000 by omega] at this
  simp only [ha.eval hx,ha.eval hy,run_eqGuard_agg w .eql t xo yo xs ys hg,Sem.run_bind,Sem.run_pure,Result.andThen_ok,run_eql_struct,this]
theorem Jd (hx:ev F xo=some (.agg xs)) (hy:ev F yo=some (.agg ys)) (hg:P.eqGuardType P.depth t=false) (hk:Nat.ble k 10000=true) (he:fU P k t (.agg xs) (.agg ys) b):Yl P n F w (.binOp .neq t xo yo yt) ty (.bool (!b)):=λ a ha o c _=>by
  unfold execOp
  rw [c]
  have hk':k<=10000:=Lh hk
  have:=he (10000 - k) w
  rw [show 10000 - k+k=10000 by omega] at this
  simp only [ha.eval hx,ha.eval hy,run_eqGuard_agg w .neq t xo yo xs ys hg,Sem.run_bind,Sem.run_pure,Result.andThen_ok,run_neq_struct,this]
end
end
open List renaming drop->s0,map->s1
section
open Go.RowKit
def bnd {α β:Type} (x:α) (f:α->β):β:=f x
theorem ae {α β:Type} {x r:α} {f:α->β} (h:x=r):bnd x f=f r:=by subst h; rfl
def lp {α ρ:Type} (x:α ⊕ ρ) (f:α->ρ):ρ:=match x with
  | .inl a=>f a
  | .inr r=>r
def BS {α σ ρ:Type} (x:α ⊕ ρ) (f:α->σ ⊕ ρ):σ ⊕ ρ:=match x with
  | .inl a=>f a
  | .inr r=> .inr r
theorem lw {α ρ:Type} {x:α ⊕ ρ} {f:α->ρ} {a:α} (h:x= .inl a):lp x f=f a:=by subst h; rfl
theorem iG {α ρ:Type} {x:α ⊕ ρ} {f:α->ρ} {r:ρ} (h:x= .inr r):lp x f=r:=by subst h; rfl
theorem sP {α σ ρ:Type} {x:α ⊕ ρ} {f:α->σ ⊕ ρ} {a:α} (h:x= .inl a):BS x f=f a:=by subst h; rfl
theorem uV {α σ ρ:Type} {x:α ⊕ ρ} {f:α->σ ⊕ ρ} {r:ρ} (h:x= .inr r):BS x f= .inr r:=by subst h; rfl
theorem eF {α:Type} {b:Bool} {x y:α} (h:b=false):(if b=true then x else y)=y:=by subst h; rfl
theorem bu {α:Type} {ls:List α} {i:Nat} {d x:α} (h:ls[i]? =some x):ls.getD i d=x:=by
  rw [List.getD_eq_getElem?_getD,h]; rfl
theorem drop_at {α:Type} {ls:List α} {i:Nat} {x:α} (h:ls[i]? =some x):s0 i ls=x::s0 (i+1) ls:=by
  obtain⟨hi,rfl⟩:=List.getElem?_eq_some_iff.1 h
  exact List.drop_eq_getElem_cons hi
theorem eX {α:Type} {ls:List α} {i:Nat} (h:ls.length<=i):s0 i ls= []:=List.drop_of_length_le h
theorem lK {n i:Nat} (h:i < n):n - i=(n - (i+1))+1:=by omega
theorem y8 {n i:Nat} (h:n<=i):n - i=0:=by omega
theorem ww {n bytes:Nat} (h:n *bytes<=211106232532992) (hb:Nat.ble bytes 1048576=true):(n+n / 4+192) *bytes<=281474976710656:=by
  have hb':bytes<=1048576:=Lh hb
  have a:(n / 4) *bytes *4<=n *bytes:=by
    rw [Nat.mul_right_comm]; exact Nat.mul_le_mul_right _ (Nat.div_mul_le_self n 4)
  rw [Nat.add_mul,Nat.add_mul]
  have c:192 *bytes<=192 *1048576:=Nat.mul_le_mul_left _ hb'
  omega
section
variable {P:Program} {n:Nat} {F:List (Nat × Value)} {w0 w:World} {D:Nat->Prop} {L:List HP} {op:Op} {ty:TypeId} {v:Value} {K:Value->World->Prop} {x y:Operand} {T t:TypeId} {g o:Nat} {cs cs' xs vs:List Value}
theorem IC {A:Option Addr} {k c m e size bytes:Nat} {news:List Value} {u:Value} {tx:TypeId} (el:Elem P t e size bytes) (H:Own w0 D w (row A k c xs e size::L)) (hx:ev F x=some (.slice A k c)) (hy:ev F y=some u) (hs:Src P size tx u m news w)
    (hb:Nat.ble bytes 1048576=true) (hbytes:k+m<=9223372036854775807/\(k+m) *bytes<=211106232532992) {s:Nat} {ys:List Value} (hsum:k+m=s) (hys:xs++news=ys) (h:∀ A' c' w',Own w0 D w' (row A' s c' ys e size::L)->K (.slice A' s c') w'):
    Do P n F w (.call ⟨.builtin .append, [x,y].toArray, [t,tx].toArray⟩) ty K:=λ a ha o i j next Q hn=>by
  obtain⟨A',c',w',hr,H'⟩:=H.append (P:=P) el hs o.type (by unfold maxLen; omega) λ _ ho'=>growslice_fits_wide ho' (ww hbytes.2 hb)
  unfold execOp
  rw [i]
  simp only [resolve,invoke,builtin,Sem.run_bind,Sem.run_pure,Result.andThen_ok,List.map_toArray,List.map_cons,List.map_nil,ha.eval hx,ha.eval hy,hr]
  subst hsum hys
  exact hn _ _ (h A' c' w' H')
theorem Own.rowC {A:Option Addr} {m c sz i:Nat} (H:Own w0 D w L) (hi:L[i]? =some (row A m c xs t sz)):m<=c/\c<=9223372036854775807:=by
  have:=H.rowLe hi; unfold maxLen at this; omega
end
theorem fB {α β:Type} {a x:α} {b y:β} (h:(a,b)=(x,y)):a=x/\b=y:=Prod.mk.inj h
theorem ym {α β γ:Type} {a x:α} {b y:β} {c z:γ} (h:(a,b,c)=(x,y,z)):a=x/\b=y/\c=z:=⟨(fB h).1,fB (fB h).2⟩
theorem gH {α β γ δ:Type} {a x:α} {b y:β} {c z:γ} {d u:δ} (h:(a,b,c,d)=(x,y,z,u)):a=x/\b=y/\c=z/\d=u:=⟨(fB h).1,ym (fB h).2⟩
theorem kX (x:Int):IntKind.u64.wrap x=((Int.toNat (IntKind.u64.wrap x):Nat):Int):=by
  simp only [IntKind.wrap,IntKind.signed,IntKind.bits]; simp; omega
theorem Ia {w0 w:World} {D:Nat->Prop} {L:List HP} (H:Own w0 D w L):∃ a:Nat->Prop,Own w a w []/\(∀ φ,Ro w0 D φ->Ro w a φ)/\(∀ w' L',Own w a w' L'->Own w0 D w' (L'++L))/\
    (∀ (φ:World->Prop) (i:Nat) (R:HP),L[i]? =some R->(∀ w' h,R h->(∀ k o,h k=some o->w'.heap[k]? =some o)->φ w')->Ro w a φ):=
  Own.enter (L1:= []) (L2:=L) H
theorem IE {w0 w:World} {D:Nat->Prop} {L:List HP} {c:HP} (H:Own w0 D w (c::L)):∃ a:Nat->Prop,Own w a w [c]/\(∀ φ,Ro w0 D φ->Ro w a φ)/\(∀ w' L',Own w a w' L'->Own w0 D w' (L'++L))/\
    (∀ (φ:World->Prop) (i:Nat) (R:HP),L[i]? =some R->(∀ w' h,R h->(∀ k o,h k=some o->w'.heap[k]? =some o)->φ w')->Ro w a φ):=
  Own.enter (L1:= [c]) (L2:=L) H
theorem IX {w0 w:World} {D:Nat->Prop} {L:List HP} {c e:HP} (H:Own w0 D w (c::e::L)):∃ a:Nat->Prop,Own w a w [c,e]/\(∀ φ,Ro w0 D φ->Ro w a φ)/\(∀ w' L',Own w a w' L'->Own w0 D w' (L'++L))/\
    (∀ (φ:World->Prop) (i:Nat) (R:HP),L[i]? =some R->(∀ w' h,R h->(∀ k o,h k=some o->w'.heap[k]? =some o)->φ w')->Ro w a φ):=
  Own.enter (L1:= [c,e]) (L2:=L) H
theorem Jb {w0 w:World} {D:Nat->Prop} {L:List HP} {c e j:HP} (H:Own w0 D w (c::e::j::L)):∃ a:Nat->Prop,Own w a w [c,e,j]/\(∀ φ,Ro w0 D φ->Ro w a φ)/\(∀ w' L',Own w a w' L'->Own w0 D w' (L'++L))/\
    (∀ (φ:World->Prop) (i:Nat) (R:HP),L[i]? =some R->(∀ w' h,R h->(∀ k o,h k=some o->w'.heap[k]? =some o)->φ w')->Ro w a φ):=
  Own.enter (L1:= [c,e,j]) (L2:=L) H
structure Ll (β:Type) where
  ls:List β
instance {β:Type}:Inhabited (Ll β):=⟨⟨[]⟩⟩
instance {β:Type}:Inhabited (Sv β):=⟨⟨none,0, []⟩⟩
theorem bL {L:List HP} {R:HP} {φ:World->Prop} (hi:R ∈ L) (f:∀ w' h,R h->(∀ k o,h k=some o->w'.heap[k]? =some o)->φ w'):∀ w' h,sepL L h->(∀ k o,h k=some o->w'.heap[k]? =some o)->φ w':=λ w' h hs a=>
  let ⟨i,hi⟩:=List.mem_iff_getElem?.1 hi
  E5 hi f w' h hs a
theorem fO {α β:Type} {f:α->β} {ds:List α} {ls:List β} {i:Nat} {x:α} (h:s1 f ds=ls) (hx:ds[i]? =some x):ls[i]? =some (f x):=by
  rw [<- h,List.getElem?_map,hx]; rfl
theorem aY {α β:Type} {f:α->β} {ds:List α} {ls:List β} (h:s1 f ds=ls):List.length ds=List.length ls:=by rw [<- h,List.length_map]
theorem jI {α β:Type} {f:α->β} {ds es:List α} {ls ms:List β} (h:s1 f ds=ls) (a:s1 f es=ms):s1 f (ds++es)=ls++ms:=by rw [List.map_append,h,a]
theorem Own.sepAdd {w0 w:World} {D:Nat->Prop} {L L1 L2 a:List HP} (H:Own w0 D w (sepL L1::(L2++L))) (he:L1++L2=a):Own w0 D w (sepL a::L):=by
  subst he
  have h:=H.flat
  rw [<- List.append_assoc] at h
  exact h.pack
section
variable {P:Program} {n:Nat} {F:List (Nat × Value)} {w:World} {op:Op} {ty:TypeId} {v:Value} {x:Operand} {ops:Array Oper} {rest:List Oper} {Q:Exit->Act->World->Prop} {pos:String} {aft:Array Edge} {d:Nat}
theorem Mv (hd:l3 d n=true) (hx:ev F x=some v) (h:WL P ops Q rest n ((d,v)::F) w):WL P ops Q (⟨some d, .move x,ty,pos,aft,none⟩::rest) n F w:=WL.val hd (Ie hx) h
theorem As (hd:l3 d n=true) (hx:ev F x=some v) (h:WL P ops Q rest n ((d,v)::F) w):WL P ops Q (⟨some d, .assign x,ty,pos,aft,none⟩::rest) n F w:=WL.val hd (Jc hx) h
theorem Kn (hd:l3 d n=true) (hk:known F op.operands.toList=true) (hs:pI op=true) (hr:∀ W,(execOp (og F) ⟨none,op,ty, "", #[],none⟩).run P W= .ok (.value v) W) (h:WL P ops Q rest n ((d,v)::F) w):WL P ops Q (⟨some d,op,ty,pos,aft,none⟩::rest) n F w:=
  WL.val hd (JA hk hs hr) h
theorem Sk {j t:Nat} {b b':Bool} (hj:(ops[j]?).bind (·.dst)=some t) (hv:look F t=some (.bool b')) (hb:b'= !b) (hd:l3 d n=true) (h:WL P ops Q rest n ((d,undef)::F) w):
    WL P ops Q (⟨some d,op,ty,pos,aft,some (j,b)⟩::rest) n F w:=J3 hj hv hb hd h
end
def kg (n:Nat):List Nat->Array Bool
  | []=>Array.replicate n false
  | i::r=>(kg n r).setIfInBounds i true
def GX (P:Program) (ops:Array Oper) (Q:Exit->Act->World->Prop) (ks:List Nat) (Good:World->Prop) (fuel:Nat) (l:List Nat) (n:Nat) (F:List (Nat × Value)) (w:World):Prop:=
  bH Q->Region.noSelect ops=true->GW P ops Q (lq ks Good) fuel (kg ops.size l) n F w
def tk (ops:Array Oper) (ks:List Nat) (rs:List (List Nat)) (i:Nat) (l:List Nat) (d n:Nat):Bool:=
  Region.free .any ops (kg ops.size l) i && (Region.ready .any ops (kg ops.size l)).contains i && ways ops i ks rs && l3 d n
section
variable {P:Program} {ops:Array Oper} {Q:Exit->Act->World->Prop} {ks:List Nat} {Good:World->Prop} {n:Nat} {F:List (Nat × Value)} {w:World} {op:Op} {ty:TypeId} {v:Value} {fuel:Nat} {l:List Nat} {pos:String} {aft:Array Edge} {d:Nat}
theorem Jm {i:Nat} {l:List Oper} (ks:List Nat) (Good:World->Prop) (hm:P.follows .mixedOrders=true) (hns:Region.noSelect l.toArray=true) (hQ:bH Q) (hS:Good w.drew)
    (h:GX P l.toArray Q ks Good l.length [] n F w.drew):Wp P (.region i l.toArray true) n F w Q:=
  Kw (lq ks Good) hm (.inr hS) (h hQ hns)
theorem GX.take {rs:List (List Nat)} (i:Nat) (hi:ops[i]? =some ⟨some d,op,ty,pos,aft,none⟩) (hk:tk ops ks rs i l d n=true)
    (hy:∀ W,Good W->Yl P n F W op ty v) (h:GX P ops Q ks Good fuel (i::l) n ((d,v)::F) w):GX P ops Q ks Good (fuel+1) l n F w:=λ hQ hs=>by
  simp only [tk,Bool.and_eq_true] at hk
  exact GW.take hi hs hk.2 hQ hk.1.1.1 hk.1.1.2 hk.1.2 rfl hy (h hQ hs)
theorem Ii {rs:List (List Nat)} (i:Nat) {j t:Nat} {b b':Bool} (hi:ops[i]? =some ⟨some d,op,ty,pos,aft,some (j,b)⟩) (hj:(ops[j]?).bind (·.dst)=some t) (hv:look F t=some (.bool b')) (hb:b'=b) (hk:tk ops ks rs i l d n=true)
    (hy:∀ W,Good W->Yl P n F W op ty v) (h:GX P ops Q ks Good fuel (i::l) n ((d,v)::F) w):GX P ops Q ks Good (fuel+1) l n F w:=λ hQ hs=>by
  simp only [tk,Bool.and_eq_true] at hk
  exact Ky hi hj hv hb hs hk.2 hQ hk.1.1.1 hk.1.1.2 hk.1.2 rfl hy (h hQ hs)
theorem Ih {rs:List (List Nat)} (i:Nat) {j t:Nat} {b b':Bool} (hi:ops[i]? =some ⟨some d,op,ty,pos,aft,some (j,b)⟩) (hj:(ops[j]?).bind (·.dst)=some t) (hv:look F t=some (.bool b')) (hb:b'= !b) (hk:tk ops ks rs i l d n=true)
    (h:GX P ops Q ks Good fuel (i::l) n ((d,undef)::F) w):GX P ops Q ks Good (fuel+1) l n F w:=λ hQ hs=>by
  simp only [tk,Bool.and_eq_true] at hk
  exact KA hi hj hv hb hs hk.2 hQ hk.1.1.1 hk.1.1.2 hk.1.2 rfl (h hQ hs)
theorem I8 {rs:List (List Nat)} (i:Nat) {j t:Nat} {b:Bool} (hi:ops[i]? =some ⟨some d,op,ty,pos,aft,some (j,b)⟩) (hj:(ops[j]?).bind (·.dst)=some t) (hv:look F t=some undef) (hk:tk ops ks rs i l d n=true)
    (h:GX P ops Q ks Good fuel (i::l) n ((d,undef)::F) w):GX P ops Q ks Good (fuel+1) l n F w:=λ hQ hs=>by
  simp only [tk,Bool.and_eq_true] at hk
  exact Kl hi hj hv hs hk.2 hQ hk.1.1.1 hk.1.1.2 hk.1.2 rfl (h hQ hs)
def GM (ops:Array Oper) (ks:List Nat) (i:Nat) (l:List Nat) (d n:Nat):Bool:=
  Region.free .any ops (kg ops.size l) i && (Region.ready .any ops (kg ops.size l)).contains i && !(ks.contains i) && l3 d n
theorem IP (i:Nat) (hi:ops[i]? =some ⟨some d,op,ty,pos,aft,none⟩) (hk:GM ops ks i l d n=true)
    (hy:∀ W,Yl P n F W op ty v) (h:GX P ops Q ks Good fuel (i::l) n ((d,v)::F) w):GX P ops Q ks Good (fuel+1) l n F w:=λ hQ hs=>by
  simp only [GM,Bool.and_eq_true,Bool.not_eq_true'] at hk
  exact KC hi hs hk.2 hQ hk.1.1.1 hk.1.1.2 hk.1.2 rfl hy (h hQ hs)
theorem JN {Good':World->Prop} (hle:∀ W,Good' W->Good W) (a:Good' w) (h:GX P ops Q ks Good' fuel l n F w):GX P ops Q ks Good fuel l n F w:=λ hQ hs=>KH hle a (h hQ hs)
def dx (ops:Array Oper) (i:Nat) (l:List Nat):Bool:=decide (Region.ready .any ops (kg ops.size l)= [i])
theorem GX.do (i:Nat) (hi:ops[i]? =some ⟨some d,op,ty,pos,aft,none⟩) (hk:(dx ops i l && l3 d n)=true)
    (h:Do P n F w op ty λ v w'=>(ks.any (λ k=>(kg ops.size (i::l)).getD k false)=true\/Good w')/\GX P ops Q ks Good fuel (i::l) n ((d,v)::F) w'):GX P ops Q ks Good (fuel+1) l n F w:=λ hQ hs=>by
  simp only [dx,Bool.and_eq_true,decide_eq_true_eq] at hk
  exact GW.do hi hk.2 hk.1 rfl (h.mono λ v w' k=>⟨k.1,k.2 hQ hs⟩)
theorem KQ (i:Nat) (hi:ops[i]? =some ⟨none,op,ty,pos,aft,none⟩) (hk:dx ops i l=true)
    (h:Do P n F w op ty λ _ w'=>(ks.any (λ k=>(kg ops.size (i::l)).getD k false)=true\/Good w')/\GX P ops Q ks Good fuel (i::l) n F w'):GX P ops Q ks Good (fuel+1) l n F w:=λ hQ hs=>by
  simp only [dx,decide_eq_true_eq] at hk
  exact KN hi hk rfl (h.mono λ v w' k=>⟨k.1,k.2 hQ hs⟩)
theorem Ja (i:Nat) {j t:Nat} {b b':Bool} (hi:ops[i]? =some ⟨some d,op,ty,pos,aft,some (j,b)⟩) (hj:(ops[j]?).bind (·.dst)=some t) (hv:look F t=some (.bool b')) (hb:b'=b) (hk:(dx ops i l && l3 d n)=true)
    (h:Do P n F w op ty λ v w'=>(ks.any (λ k=>(kg ops.size (i::l)).getD k false)=true\/Good w')/\GX P ops Q ks Good fuel (i::l) n ((d,v)::F) w'):GX P ops Q ks Good (fuel+1) l n F w:=λ hQ hs=>by
  simp only [dx,Bool.and_eq_true,decide_eq_true_eq] at hk
  exact KP hi hj hv hb hk.2 hk.1 rfl (h.mono λ v w' k=>⟨k.1,k.2 hQ hs⟩)
theorem KJ (hk:(Region.ready .any ops (kg ops.size l)).isEmpty=true) (h:Fin Q .normal n F w):GX P ops Q ks Good fuel l n F w:=λ _ _=>
  KI (List.isEmpty_iff.1 hk) h
end
end
open List renaming all_eq_true->s6,append_nil->s2,drop_append_of_le_length->u2,flatMap_append->t7,flatMap_nil->t8,getElem?_toArray->t0,map_cons->s8,map_nil->s9,take->t6,take_append_drop->s4,take_append_of_le_length->t1,take_left'->u1,take_length->s5,take_take->t2
open Nat renaming le_refl->s3,mul_pos->s7,one_mul->u0
section
open Go.RowKit
section
variable {P:Program} {n:Nat} {F:List (Nat × Value)} {w0 w:World} {D:Nat->Prop} {L:List HP} {op:Op} {ty:TypeId} {v:Value} {K:Value->World->Prop} {x y:Operand} {T t:TypeId} {g o:Nat} {cs cs' xs vs ys news:List Value}
theorem Ko {f:FuncId} {args:List Operand} {tys:Array TypeId} {a b:List UInt8} (hr:∀ (bs:Array Value) (W:World),(callFunc f bs).run P W=((Extern.BytealgCompare.compare bs).run P W).andThen λ v w'=> .ok (.value v) w') (ha:vM F args=some [.string ⟨a.toArray⟩, .string ⟨b.toArray⟩]):
    Yl P n F w (.call ⟨.value (.func f),args.toArray,tys⟩) ty (.int .i64 (Lib.compareBytes a b)):=λ ac hag o d _=>by
  unfold execOp
  rw [d]
  have he:=hag.evals ha
  simp [resolve,Act.eval,Deferred.ofValue,invoke,he,hr,Lib.run_compareString,Result.andThen]
theorem Own.rowFull {A:Option Addr} {m c sz:Nat} (H:Own w0 D w (row A m c xs t sz::L)):∃ sp:List Value,sp.length=(c - m) *sz/\Own w0 D w (row A c c (xs++sp) t sz::L):=by
  obtain⟨h,hR,f⟩:=H.get (i:=0) rfl
  have hle:=H.rowLe (i:=0) rfl
  rcases hR.2 with ⟨rfl,rfl,rfl⟩ | ⟨g,cur,fz,rfl,j,B,C,a,E,G⟩
  . exact⟨[],by simp,by rw [s2]; exact H⟩
  . have hcl:cur.toList.length=cur.size:=Array.length_toList
    refine⟨cur.toList.drop (m *sz),by rw [m9,hcl,a,Nat.sub_mul],H.upd rfl rfl rfl (s3 _) λ l ⟨I,p⟩ hk=> ?_⟩
    rcases p with ⟨e,_⟩ | ⟨g',cur',fz',e,b,J,q,r,d,s⟩
    . cases e
    . injection e with e
      injection e with e
      subst e
      have hcc:=hk g _ b
      rw [f g _ j] at hcc
      injection hcc with hcc
      injection hcc with u _ z
      subst u z
      refine⟨l,⟨?_, .inr ⟨g,cur,fz,rfl,b,s3 _,q,r, ?_,s⟩⟩,λ k o hk'=>⟨hk k o hk', .inl (by rw [hk']; exact Option.some_ne_none _)⟩,λ _ _ _=>rfl⟩
      . rw [<- d,s4,hcl,a]
      . rw [<- d,s4, <- a, <- hcl,s5]
theorem Own.rowPart {A:Option Addr} {m k c sz:Nat} (H:Own w0 D w (row A m c xs t sz::L)) (hk:k<=m) (hys:xs.take (k *sz)=ys):Own w0 D w (row A k c ys t sz::L):=H.rowTake hk hys
theorem Own.room {A:Option Addr} {c k m sz:Nat} {u:Value} {tx:TypeId} (H:Own w0 D w (row A c c xs t sz::L)) (hz:0 < sz) (hs:Src P sz tx u m news w) (hroom:k+m<=c):
    ∃ w',(match A with | some a=>storeCells (a.add (k *sz)) news 0 | none=>pure ()).run P w= .ok () w'/\Own w0 D w' (row A c c (put xs (k *sz) news) t sz::L):=by
  have hle:=H.rowLe (i:=0) rfl
  rcases o2 m with b | b
  . have hn:news= []:=o3 (by rw [hs.newsLen,b,Nat.zero_mul])
    subst hn
    have hp:put xs (k *sz) []=xs:=by simp [put]
    rw [hp]
    refine⟨w, ?_,H⟩
    cases A <;> rfl
  . have hc:0 < c:=by omega
    have hA:=(H.rds (i:=0) rfl).isSome hc
    have hl:news.length=m *sz:=hs.newsLen
    obtain⟨w',d,f⟩:=H.storeRow (P:=P) (vs:=news) (o:=k *sz) (by rw [s6]; exact λ u hu=>hs.one u hu) (by rw [hl]; exact s7 b hz) (by rw [hl,hle.2.2, <- o4]; exact m7 _ hroom) rfl
    refine⟨w', ?_,f⟩
    rw [hA]
    simp only [add0]
    exact d
theorem Jh {A:Option Addr} {k c m e size bytes:Nat} {u:Value} {tx:TypeId} (el:Elem P t e size bytes) (H:Own w0 D w (row A c c xs e size::L)) (hx:ev F x=some (.slice A k c)) (hy:ev F y=some u) (hs:Src P size tx u m news w)
    (hroom:k+m<=c) {s:Nat} (hsum:k+m=s) (h:∀ w',Own w0 D w' (row A c c (put xs (k *size) news) e size::L)->K (.slice A s c) w'):
    Do P n F w (.call ⟨.builtin .append, [x,y].toArray, [t,tx].toArray⟩) ty K:=λ a ha o b d next Q hn=>by
  obtain⟨i,z,ht,hi,hz,rfl,rfl,hzs,hsz⟩:=el
  obtain⟨w',hst,H'⟩:=H.room (P:=P) hsz hs hroom
  unfold execOp
  rw [b]
  subst hsum
  have hrun:(Builtin.append_ #[t,tx] o.type #[.slice A k c,u]).run P w= .ok (.slice A (k+m) c) w':=by
    rcases hs.kind with ⟨e',hk⟩ | hk <;> cases A <;> simp [Builtin.append_,run_underlying ht,run_underlying hk,sizeOf,typeInfo,hi,hs.len,hroom,hs.cells] <;> simp at hst <;> first | (rw [hst]; rfl) | (subst hst; rfl) | (rw [hst])
  simp only [resolve,invoke,builtin,Sem.run_bind,Sem.run_pure,Result.andThen_ok,p3,s8,s9,ha.eval hx,ha.eval hy,hrun]
  exact hn _ _ (h w' H')
theorem Jv {A Ad:Option Addr} {lo nd cd c e size bytes:Nat} {z0:Value} (b:(P.info? e).map (·.zero)=some (some z0)) (f:z0.cells.toList.all Value.oneCell'=true) (el:Elem P t e size bytes) (H:Own w0 D w (row A c c xs e size::L)) (hx:ev F x=some (.slice Ad nd cd)) (hA:0 < nd->Ad=some ⟨ab A,ao A+lo *size,none⟩) (hfit:lo+nd<=c)
    (h:∀ w' zs,zs.length=nd *size->Own w0 D w' (row A c c (put xs (lo *size) zs) e size::L)->K (.tuple #[]) w'):
    Do P n F w (.call ⟨.builtin .clear, [x].toArray, [t].toArray⟩) ty K:=λ a ha o k r next Q hn=>by
  obtain⟨i,z,ht,hi,hz,rfl,rfl,hzs,hsz⟩:=el
  have hle:=H.rowLe (i:=0) rfl
  have key:∃ w' zs,zs.length=nd *i.size/\(Builtin.clear_ #[t] o.type #[.slice Ad nd cd]).run P w= .ok (.tuple #[]) w'/\Own w0 D w' (row A c c (put xs (lo *i.size) zs) e i.size::L):=by
    rcases o2 nd with d | d
    . subst d
      refine⟨w, [],by simp, ?_,by simpa [put] using H⟩
      cases Ad <;> simp [Builtin.clear_,run_underlying ht]
    . have hAd:=hA d
      subst hAd
      have hzl:(Builtin.zeroCells z.cells nd).toList.length=nd *i.size:=by rw [Array.length_toList,nM,hzs]
      have hone:(Builtin.zeroCells z.cells nd).toList.all Value.oneCell'=true:=by
        have hzz:z=z0:=by
          rw [hi] at b
          simp only [Option.map_some,hz,Option.some.injEq] at b
          exact b
        subst hzz
        rw [s6]
        intro u hu
        simp only [Builtin.zeroCells] at hu
        simp at hu
        obtain⟨q,hq,rfl⟩:=hu
        have hlt:q % z.cells.size < z.cells.size:=Nat.mod_lt _ e8
        rw [getElem!_pos z.cells _ hlt]
        exact(s6.1 f) _ i3
      obtain⟨w',l,p⟩:=H.storeRow (P:=P) (vs:=(Builtin.zeroCells z.cells nd).toList) (o:=lo *i.size) hone (by rw [hzl]; exact s7 d hsz) (by rw [hzl,hle.2.2, <- o4]; exact m7 _ hfit) rfl
      refine⟨w',_,hzl, ?_,p⟩
      obtain⟨j,hj⟩:∃ j,nd=j+1:=⟨nd - 1,e8⟩
      subst hj
      simp [Builtin.clear_,run_underlying ht,zeroValue,typeInfo,hi,hz,l]
  obtain⟨w',zs,hzl,hrun,H'⟩:=key
  unfold execOp
  rw [k]
  simp only [resolve,invoke,builtin,Sem.run_bind,Sem.run_pure,Result.andThen_ok,p3,s8,s9,ha.eval hx,hrun]
  exact hn _ _ (h w' zs hzl H')
theorem IY {A Ad B:Option Addr} {q c nd cd m cm lo k e size bytes:Nat} {tx:TypeId} (el:Elem P t e size bytes) (H:Own w0 D w (row A q c xs e size::L)) (hx:ev F x=some (.slice Ad nd cd)) (hA:0 < nd->Ad=some ⟨ab A,ao A+lo *size,none⟩) (hfit:lo+nd<=q)
    (hy:ev F y=some (.slice B m cm)) (hr:bO w size B m news) (hk:min m nd=k) (j:∀ u ∈ news.take (k *size),u.oneCell'=true) (hys:put xs (lo *size) (news.take (k *size))=ys) (h:∀ w',Own w0 D w' (row A q c ys e size::L)->K (.int .i64 (k:Int)) w'):
    Do P n F w (.call ⟨.builtin .copy, [x,y].toArray, [t,tx].toArray⟩) ty K:=λ a ha o l p next Q hn=>by
  obtain⟨i,z,ht,hi,hz,rfl,rfl,hzs,hsz⟩:=el
  have hfc:=uE (P:=P) (k:=k) (c:=cm) hr e8
  have hlen:(news.take (k *i.size)).length=k *i.size:=by
    rw [m8,hr.1]
    exact q6 (m7 _ e8)
  have hxl:=H.rowLe (i:=0) rfl
  have key:∃ w',(match Ad with | some a=>storeCells a (news.take (k *i.size)) 0 | none=>pure ()).run P w= .ok () w'/\Own w0 D w' (row A q c ys e i.size::L):=by
    rcases o2 k with d | d
    . subst d
      have f:news.take (0 *i.size)= []:=by simp
      rw [f] at hys ⊢
      have:ys=xs:=by rw [<- hys]; simp [put]
      subst this
      refine⟨w, ?_,H⟩
      cases Ad <;> rfl
    . have hnd:0 < nd:=by omega
      have hAd:=hA hnd
      subst hAd
      have hpos:0 < (news.take (k *i.size)).length:=by rw [hlen]; exact s7 d hsz
      exact H.storeRow (P:=P) (by rw [s6]; exact λ u hu=>j u hu) hpos (by
        rw [hlen,hxl.2.2, <- o4]
        exact m7 _ e8) hys
  obtain⟨w',hst,H'⟩:=key
  unfold execOp
  rw [l]
  have hrun:(Builtin.copy_ #[t,tx] o.type #[.slice Ad nd cd, .slice B m cm]).run P w= .ok (.int .i64 (k:Int)) w':=by
    simp only [Builtin.copy_,t0,List.getElem?_cons_zero,List.getElem?_cons_succ,Sem.run_bind,run_underlying ht,Result.andThen_ok,Builtin.lenOf,Sem.run_pure,sizeOf,typeInfo]
    have hmin:Nat.min m nd=k:=hk
    simp [hi,hmin,hfc,Result.andThen]
    cases Ad with
    | none=>
      simp only [Sem.run_pure] at hst
      injection hst with _ hw
      subst hw
      rfl
    | some b=>
      simp only at hst
      simp [hst,Result.andThen,goInt]
  simp only [resolve,invoke,builtin,Sem.run_bind,Sem.run_pure,Result.andThen_ok,p3,s8,s9,ha.eval hx,ha.eval hy,hrun]
  exact hn _ _ (h w' H')
def lN (A:Option Addr) (m:Nat) (xs:List Value) (t:TypeId) (sz:Nat):HP:=λ h=>xs.length=m *sz/\∃ g,A=some ⟨g,0,none⟩/\h g=some (.cells xs.toArray t (0,0))
theorem Jn {sz m:Nat} (H:Own w0 D w L) (hk:known F op.operands.toList=true) (b:pI op=true) (hr:∀ W,(execOp (og F) ⟨none,op,ty, "", #[],none⟩).run P W= .ok (.value (.slice (some ⟨W.heap.size,0,none⟩) m m)) (W.alloc (.cells cs.toArray t (0,0))))
    (hl:cs.length=m *sz) (h:∀ A w',Own w0 D w' (lN A m cs t sz::L)->K (.slice A m m) w'):Do P n F w op ty K:=λ a ha o d f next Q hn=>by
  have hs:=uU b
  have e:execOp a.eval o=execOp (og F) o:=execOp_congr o (by rw [d]; exact hs) λ x hx=>tu ha hk x (by rw [d] at hx; simpa using hx)
  have i:execOp (og F) o=execOp (og F) ⟨none,op,ty, "", #[],none⟩:=by
    unfold execOp
    rw [d,f]
  rw [e,i,hr w]
  exact hn _ _ (h _ _ (H.alloc _ ⟨hl,w.heap.size,rfl,by simp⟩))
theorem lh {A:Option Addr} {m sz:Nat} (w':World) (h:Nat->Option Obj) (hr:lN A m xs t sz h) (a:∀ k o,h k=some o->w'.heap[k]? =some o):bO w' sz A m xs:=by
  obtain⟨hl,g,rfl,hg⟩:=hr
  refine⟨hl,λ _=>⟨rfl,λ j u hj=> ?_⟩⟩
  show w'.cell? ⟨g,0+j,none⟩=some u
  rw [cell_of_row w' g (0+j) _ t (0,0) (a g _ hg),Nat.zero_add,t0]
  exact hj
theorem Ji {f:FuncId} {args:List Operand} {tys:Array TypeId} {A B Bd:Option Addr} {m c nd cd tS tR e size lo:Nat} {zs:List Value} {b:TypeId} (hrun:∀ (bs:Array Value) (W:World),(callFunc f bs).run P W=((Extern.SlicesOverlaps.overlaps #[tS,tS] #[tR] bs).run P W).andThen λ v w'=> .ok (.value v) w') (ht:P.underlying tS=some (.slice e)) (hz:∀ w,(Go.sizeOf e).run P w= .ok size w)
    (H:Own w0 D w (lN A m zs t size::row B c c xs b size::L)) (hsz:0 < size) (hc:0 < c) (ha:vM F args=some [.slice A m m, .slice Bd nd cd]) (hB:Bd=some ⟨ab B,ao B+lo *size,none⟩):
    Yl P n F w (.call ⟨.value (.func f),args.toArray,tys⟩) ty (.bool false):=λ ac hag o j _=>by
  obtain⟨hh,hown,fs,d,h,k⟩:=H.own
  obtain⟨hl,g,rfl,hg⟩:=d 0 _ rfl
  have hgw:=(hown g _ (h 0 g _ hg)).1
  obtain⟨hxl,hR⟩:=d 1 _ rfl
  rcases hR with ⟨_,_,p⟩ | ⟨a,cur,fz,rfl,i,q,r,l,s,u⟩
  . omega
  have hg2w:=(hown a _ (h 1 a _ i)).1
  have hne:g≠a:=λ e=>by
    subst e
    rcases k 0 1 g f5 with e | e
    . rw [hg] at e; cases e
    . rw [i] at e; cases e
  subst hB
  have hpos:cur.size≠0:=by rw [l]; exact Nat.ne_of_gt (s7 hc hsz)
  have hov:=Lib.run_overlaps_apart (P:=P) w tS tR e ht size hz ⟨g,0,none⟩ ⟨a,lo *size,none⟩ m m nd cd hne t b zs.toArray.size cur.size (by simp [World.shape?,hgw]) (by simp [World.shape?,hg2w]) hpos (by simp [World.frozen?,hgw]) (by simp [World.frozen?,hgw])
  unfold execOp
  rw [j]
  have he:=hag.evals ha
  simp only [ab,ao,Nat.zero_add] at he
  simp [resolve,Act.eval,Deferred.ofValue,invoke,he,hrun,hov,Result.andThen]
theorem Jg {A:Option Addr} {q k c m e size bytes:Nat} {tn:TypeId} {kn kq:IntKind} (el:Elem P t e size bytes) (htn:P.underlying tn=some (.int kn)) (H:Own w0 D w (row A q c xs e size::L)) (hx:ev F x=some (.slice A k c)) (hy:ev F y=some (.int kq (m:Int)))
    (hkq:k<=q) (hg:c < k+m) (hm:0 < m) (hb:Nat.ble bytes 1048576=true) (hbytes:k+m<=9223372036854775807/\(k+m) *bytes<=211106232532992) {s:Nat} (hsum:k+m=s)
    (h:∀ A' c' zs w',zs.length=m *size->Own w0 D w' (row A' s c' (xs.take (k *size)++zs) e size::row A q c xs e size::L)->K (.slice A' s c') w'):
    Do P n F w (.call ⟨.builtin .append, [x,y].toArray, [t,tn].toArray⟩) ty K:=λ a ha o d l next Q hn=>by
  obtain⟨i,z,ht,hi,hz,rfl,rfl,hzs,hsz⟩:=el
  have hle:=H.rowLe (i:=0) rfl
  have hkl:(xs.take (k *i.size)).length=k *i.size:=by rw [m8,hle.2.2]; exact q6 (m7 _ hkq)
  have hR:bO w i.size A k (xs.take (k *i.size)):=by
    have:=(H.rds (i:=0) rfl).sub (k:=0) (m:=k) (A':=A) e8 (λ hk=>by rw [Nat.zero_mul,Nat.add_zero]; exact(H.rds (i:=0) rfl).isSome e8)
    simpa using this
  have hold:(Builtin.firstCells i.size k (.slice A k c)).run P w.drew= .ok (xs.take (k *i.size)).toArray w.drew:=by
    rcases o2 k with b | b
    . subst b
      cases A <;> simp [Builtin.firstCells] <;> rfl
    . rw [hR.isSome b]
      exact run_firstCells_some w.drew i.size k _ k c _ hkl λ j v hj=>by
        rw [add0]; exact hR.cell hj
  have hr:=Lib.run_append_grow_zeros (P:=P) w t tn o.type e i z kq kn ht htn hi hz A k c _ hold m hm hsz hg e8 (Nat.le_trans (m7 _ (by omega:m<=k+m)) e8) (growslice_fits_wide hg (ww hbytes.2 hb))
  unfold execOp
  rw [d]
  simp only [resolve,invoke,builtin,Sem.run_bind,Sem.run_pure,Result.andThen_ok,p3,s8,s9,ha.eval hx,ha.eval hy,hr]
  subst hsum
  have hzl:(Builtin.zeroCells z.cells m).toList.length=m *i.size:=by rw [Array.length_toList,nM,hzs]
  have hge:=grownCap_ge w (k+m) c e
  refine hn _ _ (h _ _ (Builtin.zeroCells z.cells m).toList _ hzl (H.drew.alloc _ ⟨by rw [o0,hkl,hzl,o4], .inr ⟨w.heap.size,_,(0,0),rfl,by simp; rfl,hge,grownCap_le_maxLen w (k+m) c e (by unfold maxLen; omega), ?_, ?_,wm.zero _⟩⟩))
  . rw [Array.size_append,Array.size_append,nM,nM,hzs,List.size_toArray,hkl, <- o4, <- o4]
    congr 1
    omega
  . have f:(k+m) *i.size=(xs.take (k *i.size)++(Builtin.zeroCells z.cells m).toList).length:=by rw [o0,hkl,hzl,o4]
    rw [f,Array.toList_append,Array.toList_append, <- q3]
    exact p2
end
section
variable {P:Program} {n:Nat} {F:List (Nat × Value)} {w:World} {ty T e sz bytes m c:Nat} {A:Option Addr} {x:Operand}
end
section
variable {α:Type} {enc:α->List Value} {sz:Nat}
theorem Ap {a v:List Value} {o k:Nat} (h:k<=o) (ho:o<=a.length):(put a o v).take k=a.take k:=by
  unfold put
  rw [q3,t1 (by rw [m8]; omega),t2,q6 h]
theorem ut {a v:List Value} {o k:Nat} (ho:o<=a.length) (hk:k=o+v.length):(put a o v).take k=a.take o++v:=by
  subst hk
  unfold put
  have:o+v.length=(a.take o++v).length:=by rw [o0,m8]; omega
  rw [this]
  exact p2
theorem wy (hz:∀ x,(enc x).length=sz) {l:List α} {sp:List Value} {k:Nat} (hk:k<=l.length):(q2 enc l++sp).take (k *sz)=q2 enc (t6 k l):=by
  rw [t1 (by rw [j5 hz]; exact m7 _ hk),ul hz]
theorem rY (hz:∀ x,(enc x).length=sz) {l:List α} {sp zs:List Value} {i j N:Nat} (hij:i<=j) (hj:j<=l.length) (hN:N=q7 (t6 i l++s0 j l)):
    t6 (N *sz) (put (put (q2 enc l++sp) (i *sz) (q2 enc (s0 j l))) (N *sz) zs)=q2 enc (t6 i l++s0 j l):=by
  have hN':N=i+(l.length - j):=by rw [hN,o0,m8,m9]; omega
  have a:i *sz<=l.length *sz:=m7 _ e8
  have b:N *sz<=l.length *sz:=m7 _ e8
  have hl:(q2 enc l++sp).length=l.length *sz+sp.length:=by rw [o0,j5 hz]
  have hd:(q2 enc (s0 j l)).length=(l.length - j) *sz:=by rw [j5 hz,m9]
  have hs:i *sz+(l.length - j) *sz=N *sz:=by rw [<- o4,hN']
  rw [Ap (s3 _) (by rw [sV (by rw [hl,hd]; omega),hl]; omega),ut (by rw [hl]; omega) (by rw [hd,hs]),wy hz e8, <- t7]
theorem tF (hz:∀ x,(enc x).length=sz) {l:List α} {x:α} {zs:List Value} {i N b k2:Nat} (hi:i<=l.length) (hzs:zs.length=(l.length+1 - i) *sz) (f:b=1) (a:k2=l.length - i) (hN:N=l.length+1):
    t6 (N *sz) (put (put ((q2 enc l).take (i *sz)++zs) (i *sz) ((q2 enc [x]).take (b *sz))) ((i+1) *sz) ((q2 enc (s0 i l)).take (k2 *sz)))=q2 enc (t6 i l++(x::s0 i l)):=by
  subst f a hN
  have hx:(q2 enc [x]).take (1 *sz)=enc x:=by
    simp only [p7,t8,s2,u0]
    rw [<- hz x,s5]
  have hdl:(q2 enc (s0 i l)).length=(l.length - i) *sz:=by rw [j5 hz,m9]
  rw [hx, <- hdl,s5,ul hz]
  have ht:(q2 enc (t6 i l)).length=i *sz:=by rw [j5 hz,m8,q6 hi]
  have h:(i+1) *sz=i *sz+sz:=by rw [o4,u0]
  have j:(l.length+1 - i) *sz=(l.length - i) *sz+sz:=by rw [show l.length+1 - i=(l.length - i)+1 by omega,o4,u0]
  have d:(l.length+1) *sz=(i+1) *sz+(l.length - i) *sz:=by rw [<- o4]; congr 1; omega
  have hput:(put (q2 enc (t6 i l)++zs) (i *sz) (enc x)).length=(l.length+1) *sz:=by
    rw [sV (by rw [o0,ht,hzs,hz]; omega),o0,ht,hzs,d]; omega
  rw [ut (by rw [hput]; omega) (by rw [hdl,d])]
  have a:(put (q2 enc (t6 i l)++zs) (i *sz) (enc x)).take ((i+1) *sz)=q2 enc (t6 i l)++enc x:=by
    rw [ut (by rw [o0,ht]; omega) (by rw [hz,h]),u1 ht]
  rw [a,t7,p7,q3]
theorem tH (hz:∀ x,(enc x).length=sz) {l:List α} {sp:List Value} {i k2 m:Nat} (hi:i<=l.length) (a:k2=l.length - i) (hm:l.length - i<=m):
    (((q2 enc l++sp).drop (i *sz)).take (m *sz)).take (k2 *sz)=q2 enc (s0 i l):=by
  subst a
  have hfl:(q2 enc l).length=l.length *sz:=j5 hz l
  have hle:i *sz<=l.length *sz:=m7 _ hi
  rw [t2,q6 (m7 _ hm),u2 (by rw [hfl]; exact hle),rX hz]
  have:(l.length - i) *sz=(q2 enc (s0 i l)).length:=by rw [j5 hz,m9]
  rw [this]
  exact p2
theorem tJ (hz:∀ x,(enc x).length=sz) {l:List α} {x:α} {sp:List Value} {i N f k2 m:Nat} (hi:i<=l.length) (hsp:sz<=sp.length) (h:f=1) (j:k2=l.length - i) (hN:N=l.length+1) (hm:l.length - i<=m):
    t6 (N *sz) (put (put (q2 enc l++sp) ((i+1) *sz) ((((q2 enc l++sp).drop (i *sz)).take (m *sz)).take (k2 *sz))) (i *sz) ((q2 enc [x]).take (f *sz)))=q2 enc (t6 i l++(x::s0 i l)):=by
  subst h j hN
  have hx:(q2 enc [x]).take (1 *sz)=enc x:=by
    simp only [p7,t8,s2,u0]
    rw [<- hz x,s5]
  have hfl:(q2 enc l).length=l.length *sz:=j5 hz l
  have hle:i *sz<=l.length *sz:=m7 _ hi
  have hnews:(((q2 enc l++sp).drop (i *sz)).take (m *sz)).take ((l.length - i) *sz)=q2 enc (s0 i l):=by
    rw [t2,q6 (m7 _ hm),u2 (by rw [hfl]; exact hle),rX hz]
    have:(l.length - i) *sz=(q2 enc (s0 i l)).length:=by rw [j5 hz,m9]
    rw [this]
    exact p2
  rw [hx,hnews]
  have hdl:(q2 enc (s0 i l)).length=(l.length - i) *sz:=by rw [j5 hz,m9]
  have k:(i+1) *sz=i *sz+sz:=by rw [o4,u0]
  have p:(l.length+1) *sz=(i+1) *sz+(l.length - i) *sz:=by rw [<- o4]; congr 1; omega
  have q:(l.length+1) *sz=l.length *sz+sz:=by rw [o4,u0]
  have hal:(q2 enc l++sp).length=l.length *sz+sp.length:=by rw [o0,hfl]

  have hA:∀ (a:List Value) (d b:List Value) (o:Nat),o+b.length+d.length<=a.length->t6 (o+b.length+d.length) (put (put a (o+b.length) d) o b)=a.take o++(b++d):=by
    intro a d b o hle
    have hl:(a.take (o+b.length)).length=o+b.length:=by rw [m8]; omega
    have hdrop:(put a (o+b.length) d).drop (o+b.length)=d++a.drop (o+b.length+d.length):=by
      unfold put
      rw [q3]
      exact List.drop_left' hl
    show t6 _ ((put a (o+b.length) d).take o++b++(put a (o+b.length) d).drop (o+b.length))=_
    rw [Ap e8 e8,hdrop, <- q3,q3 (t6 o a)]
    exact u1 (by simp only [o0,m8]; omega)
  have hq:=hA (q2 enc l++sp) (q2 enc (s0 i l)) (enc x) (i *sz) (by rw [hdl,hz,hal]; omega)
  rw [hz,hdl] at hq
  rw [k,show (l.length+1) *sz=i *sz+sz+(l.length - i) *sz by omega,hq,wy hz hi,t7,p7]
end
theorem rH {α:Type} {enc:α->List Value} {sz:Nat} {w:World} {A:Option Addr} {ls:List α} {xs:List Value} (h:bO w sz A (q7 ls) xs) (hA:Option.isNone A=true):ls= []:=by
  rcases o2 (q7 ls) with e | e
  . exact o3 e
  . have:=h.isSome e
    rw [this] at hA
    cases hA
theorem uG (n k:Nat) (m:Int) (hm:m=((2 ^ k:Nat):Int)):Int.fdiv (n:Int) m=((n / 2 ^ k:Nat):Int):=by
  subst hm
  rw [Int.fdiv_eq_ediv_of_nonneg _ (Int.natCast_nonneg _)]
  rfl
end
section
open Go.RowKit
section
variable {P:Program} {ops:Array Oper} {Q:Exit->Act->World->Prop} {ks:List Nat} {Good:World->Prop} {n:Nat} {F:List (Nat × Value)} {w:World} {op:Op} {ty:TypeId} {v:Value} {fuel:Nat} {l:List Nat} {pos:String} {aft:Array Edge} {d:Nat}
def pU (a b:List UInt8):List UInt8:=if a < b then b else a
theorem Kq {x y:Operand} {ts:Array TypeId} {a b:List UInt8} (ha:vM F [x,y]=some [.string ⟨a.toArray⟩, .string ⟨b.toArray⟩]):Yl P n F w (.call ⟨.builtin .max, #[x,y],ts⟩) ty (.string ⟨(pU a b).toArray⟩):=λ ac hag o f _=>by
  unfold execOp
  rw [f]
  have he:=hag.evals ha
  have e:Lib.maxS ⟨a.toArray⟩ ⟨b.toArray⟩=⟨(pU a b).toArray⟩:=by
    unfold Lib.maxS pU
    by_cases h:a < b <;> simp [h]
  simp [resolve,Act.eval,Deferred.ofValue,invoke,he,builtin,Lib.run_max_strs,Result.andThen,e]
def GY (P:Program) (ops:Array Oper) (Q:Exit->Act->World->Prop) (ks:List Nat) (Good:World->Prop) (fuel:Nat) (l:List Nat) (n:Nat) (F:List (Nat × Value)) (w:World) (i:Nat):Prop:=
  bH Q->Region.noSelect ops=true->GO P ops Q (lq ks Good) fuel (kg ops.size l) n F w i
theorem GY.do (i:Nat) (hi:ops[i]? =some ⟨some d,op,ty,pos,aft,none⟩) (hk:Nat.blt d n=true)
    (h:Do P n F w op ty λ v w'=>(ks.any (λ k=>(kg ops.size (i::l)).getD k false)=true\/Good w')/\GX P ops Q ks Good fuel (i::l) n ((d,v)::F) w'):GY P ops Q ks Good fuel l n F w i:=λ hQ hs=>
  GO.do hi hk rfl (h.mono λ v w' k=>⟨k.1,k.2 hQ hs⟩)
theorem Lg (i:Nat) (hi:ops[i]? =some ⟨none,op,ty,pos,aft,none⟩) (hk:true=true)
    (h:Do P n F w op ty λ _ w'=>(ks.any (λ k=>(kg ops.size (i::l)).getD k false)=true\/Good w')/\GX P ops Q ks Good fuel (i::l) n F w'):GY P ops Q ks Good fuel l n F w i:=λ hQ hs=>
  KO hi rfl (h.mono λ v w' k=>⟨k.1,k.2 hQ hs⟩)
end
end
section
open Go.RowKit
theorem FQ {F:List (Nat × Value)} {x:Operand} {r:Int} {i:Nat} (h:ev F x=some (.int .i64 r)) (e:r=((i:Nat):Int)):ev F x=some (.int .i64 ((i:Nat):Int)):=by rw [h,e]
end
section
open Go.RowKit
section
variable {w0 w:World} {D:Nat->Prop} {L:List HP} {α β:Type}
theorem take_at {ds:List α} {i:Nat} {x:α} (hx:ds[i]? =some x):ds=List.take i ds++(x::List.drop (i+1) ds):=by
  obtain⟨hi,rfl⟩:=List.getElem?_eq_some_iff.1 hx
  rw [List.getElem_cons_drop,List.take_append_drop]
theorem FR {ds:List α} {i:Nat} {x:α} (y:α) (hx:ds[i]? =some x):List.set ds i y=List.take i ds++(y::List.drop (i+1) ds):=by
  obtain⟨hi,rfl⟩:=List.getElem?_eq_some_iff.1 hx
  exact List.set_eq_take_append_cons_drop.trans (by rw [if_pos hi])
theorem Jy {f:α->List HP} {ds:List α} {i:Nat} {x:α} (hx:ds[i]? =some x) (H:Own w0 D w (sepL (List.flatMap f ds)::L)):
    Own w0 D w (f x++(sepL (List.flatMap f (List.take i ds)++List.flatMap f (List.drop (i+1) ds))::L)):=by
  rw [take_at hx,List.flatMap_append,List.flatMap_cons] at H
  have a:=H.flat
  have e:((List.flatMap f (List.take i ds)++(f x++List.flatMap f (List.drop (i+1) ds)))++L).Perm ((List.flatMap f (List.take i ds)++List.flatMap f (List.drop (i+1) ds))++(f x++L)):=by
    rw [<- List.append_assoc, <- List.append_assoc]
    refine List.Perm.append_right L ?_
    rw [List.append_assoc,List.append_assoc]
    exact List.Perm.append_left _ List.perm_append_comm
  have b:=(a.perm e).pack
  exact b.perm (by
    have:(sepL (List.flatMap f (List.take i ds)++List.flatMap f (List.drop (i+1) ds))::(f x++L)).Perm (f x++(sepL (List.flatMap f (List.take i ds)++List.flatMap f (List.drop (i+1) ds))::L)):=List.perm_middle.symm
    exact this)
theorem JJ {f:α->List HP} {ds:List α} {i:Nat} {x y:α} (hx:ds[i]? =some x)
    (H:Own w0 D w (f y++(sepL (List.flatMap f (List.take i ds)++List.flatMap f (List.drop (i+1) ds))::L))):Own w0 D w (sepL (List.flatMap f (List.set ds i y))::L):=by
  have a:Own w0 D w (sepL (List.flatMap f (List.take i ds)++List.flatMap f (List.drop (i+1) ds))::(f y++L)):=H.perm List.perm_middle
  have b:=a.flat
  have e:((List.flatMap f (List.take i ds)++List.flatMap f (List.drop (i+1) ds))++(f y++L)).Perm ((List.flatMap f (List.take i ds)++(f y++List.flatMap f (List.drop (i+1) ds)))++L):=by
    rw [<- List.append_assoc, <- List.append_assoc]
    refine List.Perm.append_right L ?_
    rw [List.append_assoc,List.append_assoc]
    exact List.Perm.append_left _ List.perm_append_comm
  rw [FR y hx,List.flatMap_append,List.flatMap_cons]
  exact(b.perm e).pack
theorem eH {f:α->β} {ds:List α} {ls:List β} {i:Nat} {y:α} {z:β} (h:List.map f ds=ls) (hy:f y=z):List.map f (List.set ds i y)=List.set ls i z:=by
  rw [List.map_set,h,hy]
end
section
variable {α:Type} {enc:α->List Value} {sz:Nat} {A:Option Addr} {c:Nat} {l:List α}
inductive jq (sz:Nat) (A:Option Addr) (c:Nat) (l:List α):Option Addr->Nat->List α->Prop
  | nil:jq sz A c l none 0 []
  | refl:List.length l<=c->jq sz A c l A c l
  | cut {A1:Option Addr} {c1 k:Nat} {l1:List α}:jq sz A c l A1 c1 l1->k<=List.length l1->jq sz A c l (eO A1 k sz c1) (c1 - k) (List.drop k l1)
theorem jq.le {A':Option Addr} {c':Nat} {l':List α} (h:jq sz A c l A' c' l'):List.length l'<=c'/\(c'<=c/\List.length l'<=List.length l):=by
  induction h with
  | nil=>exact⟨Nat.le_refl _,Lm _,Lm _⟩
  | refl h=>exact⟨h,Nat.le_refl _,Nat.le_refl _⟩
  | cut h hk ih=>rw [List.length_drop]; omega
theorem jq.rds {w:World} {A':Option Addr} {c':Nat} {l':List α} (hz:∀ x,(enc x).length=sz) (hp:0 < sz) (h:jq sz A c l A' c' l') (hr:bO w sz A (List.length l) (List.flatMap enc l)):bO w sz A' (List.length l') (List.flatMap enc l'):=by
  induction h with
  | nil=>exact bO.nil _ _ _
  | refl h=>exact hr
  | cut h hk ih=>
    have:=h.le
    rw [List.length_drop]
    exact I7 hz ih hk this.1 hp
theorem jq.trans {a b:Option Addr} {e f:Nat} {l1 g:List α} (h:jq sz A c l a e l1) (i:jq sz a e l1 b f g):jq sz A c l b f g:=by
  induction i with
  | nil=>exact .nil
  | refl _=>exact h
  | cut _ hk ih=>exact ih.cut hk
end
section
variable {P:Program} {n:Nat} {F G:List (Nat × Value)} {w:World} {Q:Exit->Act->World->Prop} {c:Code}
def Un (P:Program) (c:Code) (Q:Exit->Act->World->Prop):Nat->Act->World->Prop
  | 0,_,_=>False
  | k+1,a,w=>c.wp P (Exit.then (λ a' w'=>Un P c Q k a' w') Q) a w
theorem Un.loop:∀ (m:Nat) (a:Act) (w:World),Un P c Q m a w->∀ b k cs, ∃ e a' w',Q e a' w'/\Arrives P (lone (b.at a (.code c:: .inLoop c::k)) cs w) b k cs e a' w'
  | 0,_,_,h,_,_,_=>h.elim
  | m+1,a,w,h,b,k,cs=>by
    obtain⟨e,f,g,hq,harr⟩:=h b (.inLoop c::k) cs
    cases e with
    | normal=>
      obtain⟨j,o,p,i,harr2⟩:=Un.loop m f g hq b k cs
      exact⟨j,o,p,i, .of_steps (Steps.trans harr (.one step_inLoop)) harr2⟩
    | exit id=>exact⟨_,f,g,hq, .pass (x:= .inLoop c) rfl (λ _ _=> .inl i3) harr⟩
    | goto l=>exact⟨_,f,g,hq, .pass (x:= .inLoop c) rfl (λ _ _=> .inl i3) harr⟩
    | ret=>exact⟨_,f,g,hq, .pass (x:= .inLoop c) rfl (λ _ _=> .inl i3) harr⟩
    | panic ch=>exact⟨_,f,g,hq, .pass (x:= .inLoop c) rfl (λ _ _=> .inl i3) harr⟩
    | outgrown=>exact⟨_,f,g,hq, .pass (x:= .inLoop c) rfl (λ _ _=> .inl i3) harr⟩
theorem JK (m:Nat) (h:Wp P c n F w (Exit.then (λ a w=>Un P c Q m a w) Q)):Wp P (.loop c) n F w Q:=λ a ha b k cs=>by
  obtain⟨e,a',w',hq,harr⟩:=Un.loop (m+1) a w (h a ha) b k cs
  exact⟨e,a',w',hq, .of_steps (.one step_loop) harr⟩
theorem K4 {k:Nat} (G:List (Nat × Value)) (hs:xx G F) (h:Wp P c n G w (Exit.then (λ a w=>Un P c Q k a w) Q)):Fin (Exit.then (λ a w=>Un P c Q (k+1) a w) Q) .normal n F w:=λ a ha=>h a (ha.sub hs)
end
end
section
open Go.RowKit
section
variable {P:Program} {n:Nat} {F:List (Nat × Value)} {w0 w:World} {D:Nat->Prop} {L:List HP} {op:Op} {ty:TypeId} {v:Value} {K:Value->World->Prop} {x y:Operand} {T t:TypeId} {xs vs ys news:List Value}
def cO (a b:Nat):Nat:=Int.toNat (IntKind.u64.wrap (((BitVec.ofInt 64 (a:Int) ||| BitVec.ofInt 64 (b:Int)).toNat:Nat):Int))
theorem o5 (a b:Nat):cO a b<=18446744073709551615:=by unfold cO; simp only [IntKind.wrap,IntKind.signed,IntKind.bits]; simp; omega
def qf (l n:Nat):Prop:=n *128 ^ l<=18446744073709551615
theorem qf.zero {n:Nat} (h:n<=18446744073709551615):qf 0 n:=by unfold qf; omega
theorem qf.step {l l' n:Nat} (h:qf l n) (hl:l'=l+1):qf l' (n / 128):=by
  subst hl
  unfold qf at *
  rw [Nat.pow_succ,Nat.mul_comm (128 ^ l) 128, <- Nat.mul_assoc]
  exact Nat.le_trans (Nat.mul_le_mul_right _ (Nat.div_mul_le_self n 128)) h
theorem qf.le {l n:Nat} (h:qf l n) (hn:128<=n):l<=8:=by
  unfold qf at h
  rcases Nat.lt_or_ge 8 l with a | a
  . have b:128 ^ 9<=128 ^ l:=Nat.pow_le_pow_right f5 a
    have e:128 *128 ^ 9<=n *128 ^ l:=Nat.mul_le_mul hn b
    have f:128 *128 ^ 9=1180591620717411303424:=by decide
    omega
  . exact a
def Aq (n l:Nat):Prop:=1<=l/\∀ k,n < 128 ^ k *128->l<=k+1
theorem Aq.one {n l:Nat} (h:l=1):Aq n l:=⟨e8,λ k _=>by omega⟩
theorem Aq.step {n l l':Nat} (hn: ¬ n < 128) (h:Aq (n / 128) l) (hl:l'=l+1):Aq n l':=
  ⟨e8,λ k hk=>by
    cases k with
    | zero=>omega
    | succ k=>
      have a:n / 128 < 128 ^ k *128:=Nat.div_lt_of_lt_mul (by rw [Nat.pow_succ] at hk; omega)
      have:=h.2 k a
      omega⟩
end
end
section
variable {β:Type} [Bk β] {s:Sv β} {x:β}
end
section
open Go.RowKit
theorem dK {A:Option Addr} {m c sz:Nat} {xs:List Value} {t:TypeId} (w':World) (h:Nat->Option Obj) (hr:row A m c xs t sz h) (_:∀ k o,h k=some o->w'.heap[k]? =some o):m<=c/\m<=9223372036854775807:=by
  obtain⟨_,hr⟩:=hr
  rcases hr with ⟨_,e,a⟩ | ⟨g,cur,fz,_,_,a,b,_⟩
  . omega
  . unfold maxLen at b; omega
section
variable {P:Program} {n:Nat} {F:List (Nat × Value)} {w w0:World} {D:Nat->Prop} {L:List HP} {op:Op} {ty:TypeId} {ops:Array Oper} {rest:List Oper} {Q:Exit->Act->World->Prop} {pos:String} {aft:Array Edge} {d:Nat}
theorem Kz (v:Value) (h:WL P ops Q rest n ((d,v)::F) w) (hd:Nat.blt d n=true:=by exact rfl) (hk:known F op.operands.toList=true:=by exact rfl) (hs:pI op=true:=by exact rfl)
    (hr:∀ W,(execOp (og F) ⟨none,op,ty, "", #[],none⟩).run P W= .ok (.value v) W:=by intro _; kernel_rfl):WL P ops Q (⟨some d,op,ty,pos,aft,none⟩::rest) n F w:=Kn hd hk hs hr h
theorem Gz (v:Value) {j t:Nat} {b b':Bool} (hb:b'=b) (h:WL P ops Q rest n ((d,v)::F) w) (hj:(ops[j]?).bind (·.dst)=some t:=by exact rfl) (hv:look F t=some (.bool b'):=by exact rfl) (hd:Nat.blt d n=true:=by exact rfl)
    (hk:known F op.operands.toList=true:=by exact rfl) (hs:pI op=true:=by exact rfl) (hr:∀ W,(execOp (og F) ⟨none,op,ty, "", #[],none⟩).run P W= .ok (.value v) W:=by intro _; kernel_rfl):
    WL P ops Q (⟨some d,op,ty,pos,aft,some (j,b)⟩::rest) n F w:=IQ hj hv hb hd (JA hk hs hr) h
theorem Sz {j t:Nat} {b b':Bool} (hb:b'= !b) (h:WL P ops Q rest n ((d,undef)::F) w) (hj:(ops[j]?).bind (·.dst)=some t:=by exact rfl) (hv:look F t=some (.bool b'):=by exact rfl) (hd:Nat.blt d n=true:=by exact rfl):
    WL P ops Q (⟨some d,op,ty,pos,aft,some (j,b)⟩::rest) n F w:=J3 hj hv hb hd h
theorem Lz (v:Value) {x:Operand} {T:TypeId} {g o:Nat} {cs:List Value} {t:TypeId} (H:Own w0 D w L) (i:Nat) (ha:∀ W,(isAgg T).run P W= .ok false W) (h:WL P ops Q rest n ((d,v)::F) w)
    (hi:L[i]? =some (blk g cs t):=by exact rfl) (hx:ev F x=some (.pointer (some ⟨g,o,none⟩)):=by exact rfl) (hv:cs[o]? =some v:=by exact rfl) (hd:Nat.blt d n=true:=by exact rfl):
    WL P ops Q (⟨some d, .load T x,ty,pos,aft,none⟩::rest) n F w:=WL.val hd (Il hx (bQ.one ha (IU (H.cls hi) hv))) h
theorem Gl (v:Value) {x:Operand} {T:TypeId} {g o:Nat} {cs:List Value} {t:TypeId} {j q:Nat} {b b':Bool} (hb:b'=b) (H:Own w0 D w L) (i:Nat) (ha:∀ W,(isAgg T).run P W= .ok false W) (h:WL P ops Q rest n ((d,v)::F) w)
    (hi:L[i]? =some (blk g cs t):=by exact rfl) (hx:ev F x=some (.pointer (some ⟨g,o,none⟩)):=by exact rfl) (hv:cs[o]? =some v:=by exact rfl) (hj:(ops[j]?).bind (·.dst)=some q:=by exact rfl) (hl:look F q=some (.bool b'):=by exact rfl) (hd:Nat.blt d n=true:=by exact rfl):
    WL P ops Q (⟨some d, .load T x,ty,pos,aft,some (j,b)⟩::rest) n F w:=IQ hj hl hb hd (Il hx (bQ.one ha (IU (H.cls hi) hv))) h
theorem La (cs:List Value) {x:Operand} {T:TypeId} {g o:Nat} {cs':List Value} {t:TypeId} (H:Own w0 D w L) (i:Nat) (ha:∀ W,(isAgg T).run P W= .ok true W) (hS:∀ W,(sizeOf T).run P W= .ok cs.length W) (h:WL P ops Q rest n ((d, .agg cs.toArray)::F) w)
    (hi:L[i]? =some (blk g cs' t):=by exact rfl) (hx:ev F x=some (.pointer (some ⟨g,o,none⟩)):=by exact rfl) (hv:(cs'.drop o).take cs.length=cs:=by exact rfl) (hd:Nat.blt d n=true:=by exact rfl):
    WL P ops Q (⟨some d, .load T x,ty,pos,aft,none⟩::rest) n F w:=WL.val hd (Il hx (Io ha hS (by have:=(H.cls hi).lit (k:=o) hv; rwa [Nat.zero_add] at this))) h
theorem Ga (cs:List Value) {x:Operand} {T:TypeId} {g o:Nat} {cs':List Value} {t:TypeId} {j q:Nat} {b b':Bool} (hb:b'=b) (H:Own w0 D w L) (i:Nat) (ha:∀ W,(isAgg T).run P W= .ok true W) (hS:∀ W,(sizeOf T).run P W= .ok cs.length W) (h:WL P ops Q rest n ((d, .agg cs.toArray)::F) w)
    (hi:L[i]? =some (blk g cs' t):=by exact rfl) (hx:ev F x=some (.pointer (some ⟨g,o,none⟩)):=by exact rfl) (hv:(cs'.drop o).take cs.length=cs:=by exact rfl) (hj:(ops[j]?).bind (·.dst)=some q:=by exact rfl) (hl:look F q=some (.bool b'):=by exact rfl) (hd:Nat.blt d n=true:=by exact rfl):
    WL P ops Q (⟨some d, .load T x,ty,pos,aft,some (j,b)⟩::rest) n F w:=IQ hj hl hb hd (Il hx (Io ha hS (by have:=(H.cls hi).lit (k:=o) hv; rwa [Nat.zero_add] at this))) h
end
section
variable {α γ:Type}
theorem BU {ds:List α} {i:Nat} {x:α} (y:α) (hx:ds[i]? =some x):List.set ds i y=List.take i ds++y::List.drop (i+1) ds:=by
  obtain⟨hi,_⟩:=List.getElem?_eq_some_iff.1 hx
  rw [List.set_eq_take_append_cons_drop,if_pos hi]
theorem En {ds:List α} {i:Nat} {x:α} (hx:ds[i]? =some x):ds=List.take i ds++x::List.drop (i+1) ds:=by
  have h:=BU x hx
  rw [<- h]
  obtain⟨hi,e⟩:=List.getElem?_eq_some_iff.1 hx
  rw [<- e,List.set_getElem_self]
theorem lU {f:α->List γ} {ds:List α} {i:Nat} {x y:α} (hx:ds[i]? =some x) (h:f y=f x):List.flatMap f (List.set ds i y)=List.flatMap f ds:=by
  rw [BU y hx,List.flatMap_append,List.flatMap_cons,h]
  conv=>rhs; rw [En hx,List.flatMap_append,List.flatMap_cons]
end
theorem Eo {w:World} {sz n m:Nat} {A:Option Addr} {xs:List Value} (e:n=m) (h:bO w sz A n xs):bO w sz A m xs:=by subst e; exact h
theorem J7 {α:Type} {sz:Nat} {A:Option Addr} {c:Nat} {l:List α} {A':Option Addr} {c':Nat} {l':List α} {x:α} (h:jq sz A c l A' c' l') (hx:x ∈ l'):x ∈ l:=by
  induction h with
  | nil=>cases hx
  | refl _=>exact hx
  | cut _ _ ih=>exact ih (List.mem_of_mem_drop hx)
end
section
open Go.RowKit
section
variable {P:Program} {n:Nat} {F:List (Nat × Value)} {w w0:World} {D:Nat->Prop} {L:List HP} {op:Op} {ty:TypeId} {ops:Array Oper} {rest:List Oper} {Q:Exit->Act->World->Prop} {pos:String} {aft:Array Edge} {d:Nat} {v:Value} {x:Operand} {K:Act->World->Prop}
theorem nt {y:Code} (h:Wp P y n F w Q):WL P ops (Exit.then (λ a w=>y.wp P Q a w) Q) [] n F w:=WL.nil (Ib h)
theorem sr {i:Nat} {l:List Oper} {y:Code} (h:WL P l.toArray (Exit.then (λ a w=>y.wp P Q a w) Q) l n F w):Wp P (.seq (.region i l.toArray false) y) n F w Q:=H7 (H8 h)
theorem ns {i:Nat} {l:List Oper} {y:Code} (h:WL P l.toArray (Exit.then (λ a w=>y.wp P Q a w) Q) l n F w):WL P ops (Exit.then (λ a w=>(Code.seq (.region i l.toArray false) y).wp P Q a w) Q) [] n F w:=nt (sr h)
theorem Az (hx:ev F x=some v) (h:WL P ops Q rest n ((d,v)::F) w) (hd:l3 d n=true:=by exact rfl):WL P ops Q (⟨some d, .assign x,ty,pos,aft,none⟩::rest) n F w:=As hd hx h
theorem Mz (hx:ev F x=some v) (h:WL P ops Q rest n ((d,v)::F) w) (hd:l3 d n=true:=by exact rfl):WL P ops Q (⟨some d, .move x,ty,pos,aft,none⟩::rest) n F w:=Mv hd hx h
theorem An {y:Code} (hx:ev F x=some v) (h:Wp P y n ((d,v)::F) w Q) (hd:l3 d n=true:=by exact rfl):WL P ops (Exit.then (λ a w=>y.wp P Q a w) Q) [⟨some d, .assign x,ty,pos,aft,none⟩] n F w:=As hd hx (nt h)
theorem Ar {i:Nat} {l:List Oper} {y:Code} (hx:ev F x=some v) (h:WL P l.toArray (Exit.then (λ a w=>y.wp P Q a w) Q) l n ((d,v)::F) w) (hd:l3 d n=true:=by exact rfl):WL P ops (Exit.then (λ a w=>(Code.seq (.region i l.toArray false) y).wp P Q a w) Q) [⟨some d, .assign x,ty,pos,aft,none⟩] n F w:=As hd hx (ns h)
theorem Mn {y:Code} (hx:ev F x=some v) (h:Wp P y n ((d,v)::F) w Q) (hd:l3 d n=true:=by exact rfl):WL P ops (Exit.then (λ a w=>y.wp P Q a w) Q) [⟨some d, .move x,ty,pos,aft,none⟩] n F w:=Mv hd hx (nt h)
theorem jT {c:Operand} {x y:Code} {b:Bool} (hb:b=true) (ht:Wp P x n F w Q) (hc:ev F c=some (.bool b):=by exact rfl):Wp P (.cond c x y) n F w Q:=JZ hc hb ht
theorem jF {c:Operand} {x y:Code} {b:Bool} (hb:b=false) (hf:Wp P y n F w Q) (hc:ev F c=some (.bool b):=by exact rfl):Wp P (.cond c x y) n F w Q:=J2 hc hb hf
theorem jt {c:Operand} {x y:Code} (ht:Wp P x n F w Q) (hc:ev F c=some (.bool true):=by exact rfl):Wp P (.cond c x y) n F w Q:=JZ hc rfl ht
theorem jf {c:Operand} {x y:Code} (hf:Wp P y n F w Q) (hc:ev F c=some (.bool false):=by exact rfl):Wp P (.cond c x y) n F w Q:=J2 hc rfl hf
theorem dT {p:Prop} [i:Decidable p] (h:p):decide p=true:=decide_eq_true h
theorem dF {p:Prop} [i:Decidable p] (h: ¬ p):decide p=false:=decide_eq_false h
theorem et {α:Type} {a b c:α} (h:a=b) (k:b=c):a=c:=h.trans k
theorem ip {c:Prop} [h:Decidable c] (hc:c) {α:Type} {t e:α}:ite c t e=t:=if_pos hc
theorem iN {c:Prop} [h:Decidable c] (hc: ¬ c) {α:Type} {t e:α}:ite c t e=e:=if_neg hc
theorem fw (v:Value) (hy:Yl P n F w op ty v) (h:WL P ops Q rest n ((d,v)::F) w) (hd:l3 d n=true:=by exact rfl):WL P ops Q (⟨some d,op,ty,pos,aft,none⟩::rest) n F w:=WL.val hd hy h
theorem yk (hk:known F op.operands.toList=true:=by exact rfl) (hs:pI op=true:=by exact rfl) (hr:∀ W,(execOp (og F) ⟨none,op,ty, "", #[],none⟩).run P W= .ok (.value v) W:=by intro _; kernel_rfl):Yl P n F w op ty v:=JA hk hs hr
theorem cu (vs:List Value) (o:Nat) {T:TypeId} {y:Operand} {g:Nat} {cs:List Value} {t:TypeId} (H:Own w0 D w (blk g cs t::L)) (hS:∀ W,(sizeOf T).run P W= .ok vs.length W) (h:∀ w',Own w0 D w' (blk g (put cs o vs) t::L)->WL P ops Q rest n F w')
    (hx:ev F x=some (.pointer (some ⟨g,o,none⟩)):=by exact rfl) (hy:ev F y=some v:=by exact rfl) (hv:v.cells=vs.toArray:=by exact rfl) (a:vs.all Value.oneCell'=true:=by exact rfl) (hf:Nat.ble (o+vs.length) cs.length=true:=by exact rfl):
    WL P ops Q (⟨none, .store T x y,ty,pos,aft,none⟩::rest) n F w:=I5 (Do.store H hx hy hS hv a hf rfl h)
theorem bW (cs:List Value) (t:TypeId) (H:Own w0 D w L) (h:∀ g w',Own w0 D w' (blk g cs t::L)->WL P ops Q rest n ((d, .pointer (some ⟨g,0,none⟩))::F) w') (hd:l3 d n=true:=by exact rfl) (hk:known F op.operands.toList=true:=by exact rfl) (a:pI op=true:=by exact rfl)
    (hr:∀ W,(execOp (og F) ⟨none,op,ty, "", #[],none⟩).run P W= .ok (.value (.pointer (some ⟨W.heap.size,0,none⟩))) (W.alloc (.cells cs.toArray t (0,0))):=by intro _; kernel_rfl):WL P ops Q (⟨some d,op,ty,pos,aft,none⟩::rest) n F w:=WL.do hd (Kg H hk a hr h)
theorem jN (cs:List Value) (t:TypeId) (sz m:Nat) (H:Own w0 D w L) (h:∀ A w',Own w0 D w' (row A m m cs t sz::L)->WL P ops Q rest n ((d, .slice A m m)::F) w') (hd:l3 d n=true:=by exact rfl) (hk:known F op.operands.toList=true:=by exact rfl) (a:pI op=true:=by exact rfl)
    (hr:∀ W,(execOp (og F) ⟨none,op,ty, "", #[],none⟩).run P W= .ok (.value (.slice (some ⟨W.heap.size,0,none⟩) m m)) (W.alloc (.cells cs.toArray t (0,0))):=by intro _; kernel_rfl) (hl:cs.length=m *sz:=by exact rfl) (hm:m<=4294967296:=by decide):
    WL P ops Q (⟨some d,op,ty,pos,aft,none⟩::rest) n F w:=WL.do hd (IZ H hk a hr hl hm h)
theorem cl {f:FuncId} {args:List Operand} {vals:List Value} {tys:Array TypeId} {R:Value->World->Prop} (hf:∀ (b:Array Value) W,(callFunc f b).run P W= .ok (.enter f b) W) (hc:Calls P f vals.toArray w (dI R)) (h:∀ v w',R v w'->WL P ops Q rest n ((d,v)::F) w')
    (hd:l3 d n=true:=by exact rfl) (ha:vM F args=some vals:=by exact rfl):WL P ops Q (⟨some d, .call ⟨.value (.func f),args.toArray,tys⟩,ty,pos,aft,none⟩::rest) n F w:=WL.do hd (IB hf ha hc h)
theorem rs {fn:Func} {R:Value->World->Prop} {t:Tmp} (h:R v w) (hr:fn.results= #[.tmp t]:=by exact rfl) (hv:look F t=some v:=by exact rfl):Fin (bodyPost P fn (dI R)) .ret n F w:=Ir (G6 hr hv) h
theorem IL {x y:HP} (h:x=y) (H:Own w0 D w (x::L)):Own w0 D w (y::L):=h ▸ H
theorem Own.pk {L':List HP} (H:Own w0 D w L) (idx:List Nat) (hn:idx.Nodup:=by decide) (hp:Go.Proofs.YtndamapfnpihpaaGreat.pk L idx=some L':=by exact rfl):Own w0 D w L':=H.pick idx hn hp
theorem cn {a b:Bool} (h:a=b):(!a)=(!b):=congrArg not h
theorem gw (v:Value) {j t:Nat} {b b':Bool} (hb:b'=b) (hy:Yl P n F w op ty v) (h:WL P ops Q rest n ((d,v)::F) w) (hj:(ops[j]?).bind (·.dst)=some t:=by exact rfl) (hv:look F t=some (.bool b'):=by exact rfl) (hd:l3 d n=true:=by exact rfl):
    WL P ops Q (⟨some d,op,ty,pos,aft,some (j,b)⟩::rest) n F w:=IQ hj hv hb hd hy h
theorem oh {j t:Nat} {b b':Bool} (hb:b'=b) {f:FuncId} {args:List Operand} {vals:List Value} {tys:Array TypeId} {R:Value->World->Prop} (hf:∀ (b:Array Value) W,(callFunc f b).run P W= .ok (.enter f b) W) (hc:Calls P f vals.toArray w (dI R)) (h:∀ v w',R v w'->WL P ops Q rest n ((d,v)::F) w')
    (hj:(ops[j]?).bind (·.dst)=some t:=by exact rfl) (hv:look F t=some (.bool b'):=by exact rfl) (hd:l3 d n=true:=by exact rfl) (ha:vM F args=some vals:=by exact rfl):WL P ops Q (⟨some d, .call ⟨.value (.func f),args.toArray,tys⟩,ty,pos,aft,some (j,b)⟩::rest) n F w:=I9 hj hv hb hd (IB hf ha hc h)
theorem sk {y:Code} (h:Wp P y n F w Q):Wp P .skip n F w (Exit.then (λ a w=>y.wp P Q a w) Q):=IG (Ib h)
theorem tR (h:Fin Q .ret n F w):Fin (Exit.then K Q) .ret n F w:=h
theorem bR {i:Nat} (h:Fin Q .ret n F w):Fin (Exit.inBlock i Q) .ret n F w:=h
theorem bN {i:Nat} (h:Fin Q .normal n F w):Fin (Exit.inBlock i Q) .normal n F w:=h
theorem rt (h:Fin Q .ret n F w):Wp P .ret n F w Q:=Wp.ret h
theorem bo {i:Nat} {c:Code} (h:Wp P c n F w (Exit.inBlock i Q)):Wp P (.block i c) n F w Q:=Wp.block h
end
theorem zq1 {α:Type}{a b:α}(h:a=b:=by with_reducible first|exact ip (by assumption)|exact iN (by assumption)|exact ae (by assumption)|exact ae (bu (by assumption))|exact eF (by assumption)):a=b:=h
theorem zq2 {α:Type}{a b c:α}(h:a=b:=by exact zq1)(k:b=c:=by exact zq1):a=c:=h.trans k
theorem zq3 {α:Type}{a b c:α}(h:a=b:=by exact zq1)(k:b=c:=by exact zq2):a=c:=h.trans k
theorem zq4 {α:Type}{a b c:α}(h:a=b:=by exact zq1)(k:b=c:=by exact zq3):a=c:=h.trans k
theorem zq5 {α:Type}{a b c:α}(h:a=b:=by exact zq1)(k:b=c:=by exact zq4):a=c:=h.trans k
theorem zq6 {α:Type}{a b c:α}(h:a=b:=by exact zq1)(k:b=c:=by exact zq5):a=c:=h.trans k
theorem zq7 {α:Type}{a b c:α}(h:a=b:=by exact zq1)(k:b=c:=by exact zq6):a=c:=h.trans k
theorem zq8 {α:Type}{a b c:α}(h:a=b:=by exact zq1)(k:b=c:=by exact zq7):a=c:=h.trans k
theorem zq9 {α:Type}{a b c:α}(h:a=b:=by exact zq1)(k:b=c:=by exact zq8):a=c:=h.trans k
theorem zq10 {α:Type}{a b c:α}(h:a=b:=by exact zq1)(k:b=c:=by exact zq9):a=c:=h.trans k
theorem zq11 {α:Type}{a b c:α}(h:a=b:=by exact zq1)(k:b=c:=by exact zq10):a=c:=h.trans k
theorem zq12 {α:Type}{a b c:α}(h:a=b:=by exact zq1)(k:b=c:=by exact zq11):a=c:=h.trans k
theorem zq13 {α:Type}{a b c:α}(h:a=b:=by exact zq1)(k:b=c:=by exact zq12):a=c:=h.trans k
theorem zq14 {α:Type}{a b c:α}(h:a=b:=by exact zq1)(k:b=c:=by exact zq13):a=c:=h.trans k
theorem zq15 {α:Type}{a b c:α}(h:a=b:=by exact zq1)(k:b=c:=by exact zq14):a=c:=h.trans k
theorem zq16 {α:Type}{a b c:α}(h:a=b:=by exact zq1)(k:b=c:=by exact zq15):a=c:=h.trans k
theorem zq17 {α:Type}{a b c:α}(h:a=b:=by exact zq1)(k:b=c:=by exact zq16):a=c:=h.trans k
theorem zq18 {α:Type}{a b c:α}(h:a=b:=by exact zq1)(k:b=c:=by exact zq17):a=c:=h.trans k
theorem zq19 {α:Type}{a b c:α}(h:a=b:=by exact zq1)(k:b=c:=by exact zq18):a=c:=h.trans k
theorem zq20 {α:Type}{a b c:α}(h:a=b:=by exact zq1)(k:b=c:=by exact zq19):a=c:=h.trans k
theorem zq21 {α:Type}{a b c:α}(h:a=b:=by exact zq1)(k:b=c:=by exact zq20):a=c:=h.trans k
theorem zq22 {α:Type}{a b c:α}(h:a=b:=by exact zq1)(k:b=c:=by exact zq21):a=c:=h.trans k
theorem zq23 {α:Type}{a b c:α}(h:a=b:=by exact zq1)(k:b=c:=by exact zq22):a=c:=h.trans k
theorem zq24 {α:Type}{a b c:α}(h:a=b:=by exact zq1)(k:b=c:=by exact zq23):a=c:=h.trans k
end
section
open Go.RowKit
section
variable {κ ν:Type} [DecidableEq κ]
def uu:List (κ × ν)->κ->Option ν
  | [],_=>none
  | (a,b)::r,k=>if a=k then some b else uu r k
def gU:List (κ × ν)->κ->ν->List (κ × ν)
  | [],k,v=> [(k,v)]
  | (a,b)::r,k,v=>if a=k then(k,v)::r else(a,b)::gU r k v
theorem wz:∀ {m:List (κ × ν)} {k:κ},(∀ p ∈ m,p.1≠k)->uu m k=none
  | [],_,_=>rfl
  | (a,b)::r,k,h=>by
    unfold uu
    rw [if_neg (h _ b3)]
    exact wz λ p hp=>h p (.tail _ hp)
theorem y9:∀ {m:List (κ × ν)} {j:Nat} {k:κ} {v:ν},(m.map Prod.fst).Nodup->m[j]? =some (k,v)->uu m k=some v
  | [],_,_,_,_,h=>by simp at h
  | (a,b)::r,0,k,v,hn,h=>by
    simp only [List.getElem?_cons_zero,Option.some.injEq,Prod.mk.injEq] at h
    unfold uu
    rw [if_pos h.1,h.2]
  | (a,b)::r,j+1,k,v,hn,h=>by
    simp only [List.getElem?_cons_succ] at h
    simp only [List.map_cons,List.nodup_cons] at hn
    have hm:k ∈ r.map Prod.fst:=List.mem_map.2 ⟨(k,v),List.mem_of_getElem? h,rfl⟩
    unfold uu
    rw [if_neg (λ e:a=k=>hn.1 (by rw [e]; exact hm))]
    exact y9 hn.2 h
theorem Au:∀ {m:List (κ × ν)} {k:κ} {v:ν},(∀ p ∈ m,p.1≠k)->gU m k v=m++ [(k,v)]
  | [],_,_,_=>rfl
  | (a,b)::r,k,v,h=>by
    unfold gU
    rw [if_neg (h _ b3),Au λ p hp=>h p (.tail _ hp)]
    rfl
theorem BV:∀ {m:List (κ × ν)} {j:Nat} {k:κ} {b v:ν},(m.map Prod.fst).Nodup->m[j]? =some (k,b)->gU m k v=m.set j (k,v)
  | [],_,_,_,_,_,h=>by simp at h
  | (a,c)::r,0,k,b,v,hn,h=>by
    simp only [List.getElem?_cons_zero,Option.some.injEq,Prod.mk.injEq] at h
    unfold gU
    rw [if_pos h.1]
    rfl
  | (a,c)::r,j+1,k,b,v,hn,h=>by
    simp only [List.getElem?_cons_succ] at h
    simp only [List.map_cons,List.nodup_cons] at hn
    have hm:k ∈ r.map Prod.fst:=List.mem_map.2 ⟨(k,b),List.mem_of_getElem? h,rfl⟩
    unfold gU
    rw [if_neg (λ e:a=k=>hn.1 (by rw [e]; exact hm)),BV hn.2 h]
    rfl
theorem wB:∀ (m:List (κ × ν)) (k:κ) (v:ν),(m.map Prod.fst).Nodup->((gU m k v).map Prod.fst).Nodup/\∀ q,q ∈ (gU m k v).map Prod.fst->q=k\/q ∈ m.map Prod.fst
  | [],k,v,_=>⟨by simp [gU],λ q hq=> .inl (by simpa [gU] using hq)⟩
  | (a,b)::r,k,v,hn=>by
    simp only [List.map_cons,List.nodup_cons] at hn
    unfold gU
    by_cases h:a=k
    . subst h
      rw [if_pos rfl]
      exact⟨by simp only [List.map_cons,List.nodup_cons]; exact hn,λ q hq=> .inr hq⟩
    . rw [if_neg h]
      obtain⟨d,c⟩:=wB r k v hn.2
      refine⟨?_,λ q hq=> ?_⟩
      . simp only [List.map_cons,List.nodup_cons]
        refine⟨λ hm=> ?_,d⟩
        rcases c a hm with e | e
        . exact h e
        . exact hn.1 e
      . simp only [List.map_cons,List.mem_cons] at hq ⊢
        rcases hq with e | e
        . exact .inr (.inl e)
        . rcases c q e with e | e
          . exact .inl e
          . exact .inr (.inr e)
end
@[reducible] def kI (i:Int):Value:= .int .i64 i
structure za {κ:Type} (P:Program) (kt:TypeId) (ek:κ->Value):Prop where
  key:∃ d,P.underlying kt=some d/\∀ a,Go.MapKept.IsKey d (ek a)
  inj:∀ a b,ek a=ek b->a=b
  same:∀ a,Instr.sameBits 10000 (ek a) (ek a)=true
def pV {κ ν:Type} (g:Nat) (ek:κ->Value) (vv:ν->Value) (m:List (κ × ν)):HP:=λ h=>(m.map Prod.fst).Nodup/\∃ (es:Array MapEntry) (clock:Nat),h g=some (.map es clock)/\es.toList.map (λ e=>(e.key,e.val))=m.map λ p=>(ek p.1,vv p.2)
section
variable {κ ν:Type} [DecidableEq κ] {P:Program} {n:Nat} {F:List (Nat × Value)} {w0 w:World} {D:Nat->Prop} {L:List HP} {ty t kt e:TypeId} {K:Value->World->Prop} {x y q:Operand} {ek:κ->Value} {vv:ν->Value} {m:List (κ × ν)} {g i:Nat} {z:Value} {d0:ν}
theorem qN {kt:TypeId} (hk:P.underlying kt=some (.int .i64)):za P kt kI:=by
  refine⟨⟨_,hk,λ a=>by simp [Go.MapKept.IsKey]⟩,λ a b h=> ?_,λ a=> ?_⟩
  . injection h
  . simp [Instr.sameBits]
theorem Own.mapAt (H:Own w0 D w L) (hi:L[i]? =some (pV g ek vv m)) (K:za P kt ek) (k:κ):∃ es clock d,w.heap[g]? =some (.map es clock)/\es.toList.map (λ e=>(e.key,e.val))=m.map (λ p=>(ek p.1,vv p.2))/\(m.map Prod.fst).Nodup/\P.underlying kt=some d/\Go.MapKept.IsKey d (ek k)/\
    ((Instr.findNow d (ek k) es.toList 0=some none/\(∀ p ∈ m,p.1≠k))\/∃ j v,Instr.findNow d (ek k) es.toList 0=some (some (j,vv v))/\m[j]? =some (k,v)):=by
  obtain⟨h,⟨hn,es,clock,r,f⟩,s⟩:=H.get hi
  obtain⟨d,hd,hk⟩:=K.key
  refine⟨es,clock,d,s g _ r,f,hn,hd,hk k, ?_⟩
  have hkeys:∀ x ∈ es.toList,Go.MapKept.IsKey d x.key:=λ x hx=>by
    have:(x.key,x.val) ∈ m.map λ p=>(ek p.1,vv p.2):=by rw [<- f]; exact List.mem_map.2 ⟨x,hx,rfl⟩
    obtain⟨p,_,hp⟩:=List.mem_map.1 this
    injection hp with hp _
    rw [<- hp]; exact hk _
  rcases Go.MapKept.findNow_spec (hk k) es.toList 0 hkeys with ⟨a,b⟩ | ⟨j,o,a,b,c⟩
  . refine .inl ⟨a,λ p hp e=> ?_⟩
    have:(ek p.1,vv p.2) ∈ es.toList.map λ e=>(e.key,e.val):=by rw [f]; exact List.mem_map.2 ⟨p,hp,rfl⟩
    obtain⟨x,hx,he⟩:=List.mem_map.1 this
    injection he with he _
    exact b x hx (he.trans (by rw [e]))
  . rw [Nat.zero_add] at a
    have hj:(m.map λ p=>(ek p.1,vv p.2))[j]? =some (o.key,o.val):=by rw [<- f,List.getElem?_map,b]; rfl
    rw [List.getElem?_map] at hj
    cases hm:m[j]? with
    | none=>rw [hm] at hj; cases hj
    | some p=>
      rw [hm] at hj
      simp only [Option.map_some,Option.some.injEq,Prod.mk.injEq] at hj
      have l:=K.inj _ _ (hj.1.trans c)
      refine .inr ⟨j,p.2,by rw [a,hj.2], ?_⟩
      rw [hm, <- l]
theorem Jz {k:κ} {o:Option ν} (H:Own w0 D w L) (hi:L[i]? =some (pV g ek vv m)) (K:za P kt ek) (ht:P.underlying t=some (.map kt e)) (hz:∀ W,(zeroValue e).run P W= .ok (vv d0) W) (hx:ev F x=some (.map (some g))) (hy:ev F y=some (ek k)) (ho:uu m k=o):
    Yl P n F w (.lookup t x y true) ty (.tuple #[vv (o.getD d0), .bool o.isSome]):=λ a ha op b _=>by
  subst ho
  obtain⟨es,clock,d,hb,_,hn,hd,hk,hf⟩:=H.mapAt hi K k
  unfold execOp
  rw [b]
  simp only [ha.eval hx,ha.eval hy]
  rcases hf with ⟨hf,hno⟩ | ⟨j,v,hf,hj⟩
  . rw [wz hno]
    simp [Instr.lookup,run_underlying ht,Go.MapKept.run_getObj_map hb,Go.MapKept.run_checkKey hd hk,Go.MapKept.run_findKey hd hf,hz w,Result.andThen]
  . rw [y9 hn hj]
    simp [Instr.lookup,run_underlying ht,Go.MapKept.run_getObj_map hb,Go.MapKept.run_checkKey hd hk,Go.MapKept.run_findKey hd hf,Result.andThen]
theorem K5 {k:κ} {o:Option ν} (H:Own w0 D w L) (hi:L[i]? =some (pV g ek vv m)) (K:za P kt ek) (ht:P.underlying t=some (.map kt e)) (hz:∀ W,(zeroValue e).run P W= .ok (vv d0) W) (hx:ev F x=some (.map (some g))) (hy:ev F y=some (ek k)) (ho:uu m k=o):
    Yl P n F w (.lookup t x y false) ty (vv (o.getD d0)):=λ a ha op b _=>by
  subst ho
  obtain⟨es,clock,d,hb,_,hn,hd,hk,hf⟩:=H.mapAt hi K k
  unfold execOp
  rw [b]
  simp only [ha.eval hx,ha.eval hy]
  rcases hf with ⟨hf,hno⟩ | ⟨j,v,hf,hj⟩
  . rw [wz hno]
    simp [Instr.lookup,run_underlying ht,Go.MapKept.run_getObj_map hb,Go.MapKept.run_checkKey hd hk,Go.MapKept.run_findKey hd hf,hz w,Result.andThen]
  . rw [y9 hn hj]
    simp [Instr.lookup,run_underlying ht,Go.MapKept.run_getObj_map hb,Go.MapKept.run_checkKey hd hk,Go.MapKept.run_findKey hd hf,Result.andThen]
theorem Own.mapSet {m':List (κ × ν)} {es':Array MapEntry} {clock':Nat} (H:Own w0 D w (pV g ek vv m::L)) (hn:(m'.map Prod.fst).Nodup) (he:es'.toList.map (λ e=>(e.key,e.val))=m'.map λ p=>(ek p.1,vv p.2)):
    Own w0 D { w with heap:=w.heap.setIfInBounds g (.map es' clock') } (pV g ek vv m'::L):=by
  refine H.upd rfl rfl rfl i3 λ h ⟨_,es,clock,b,_⟩ hk=> ?_
  have hb:=hk g _ b
  obtain⟨c,d⟩:=Go.MapKept.heap_set (o':=Obj.map es' clock') hb
  refine⟨λ k=>if k=g then some (.map es' clock') else none,⟨hn,es',clock',by simp,he⟩,λ k o hk'=> ?_,λ k f a=> ?_⟩
  . by_cases e:k=g
    . subst e
      simp only [if_true,Option.some.injEq] at hk'
      subst hk'
      exact⟨c, .inl (by rw [b]; exact Option.some_ne_none _)⟩
    . simp only [e,if_false] at hk'; cases hk'
  . exact d k (λ e=>by subst e; rw [b] at a; cases a)
theorem J8 {k:κ} {v:ν} (H:Own w0 D w (pV g ek vv m::L)) (K':za P kt ek) (ht:P.underlying t=some (.map kt e)) (hx:ev F x=some (.map (some g))) (hy:ev F y=some (ek k)) (hq:ev F q=some (vv v))
    (h:∀ w',Own w0 D w' (pV g ek vv (gU m k v)::L)->K undef w'):Do P n F w (.mapUpdate t x y q) ty K:=λ a ha op b c next Q hnx=>by
  obtain⟨es,clock,d,hb,he,hn,hd,hk,hf⟩:=H.mapAt (i:=0) rfl K' k
  unfold execOp
  rw [b]
  simp only [ha.eval hx,ha.eval hy,ha.eval hq]
  rcases hf with ⟨hf,hno⟩ | ⟨j,u,hf,hj⟩
  . have hrun:(Instr.mapUpdate t (.map (some g)) (ek k) (vv v)).run P w= .ok () { w with heap:=w.heap.setIfInBounds g (.map (es.push { key:=ek k,val:=vv v,born:=clock }) (clock+1)) }:=by
      simp [Instr.mapUpdate,run_underlying ht,Go.MapKept.run_getObj_map hb,Go.MapKept.run_checkKey hd hk,Go.MapKept.run_findKey hd hf,Go.MapKept.run_setObj_map _ hb,Result.andThen]
    have H':=H.mapSet (m':=gU m k v) (es':=es.push { key:=ek k,val:=vv v,born:=clock }) (clock':=clock+1) (wB m k v hn).1 (by rw [Au hno,Array.toList_push,List.map_append,List.map_append,he]; rfl)
    simp only [Sem.run_bind,Sem.run_pure,Result.andThen_ok,hrun]
    exact hnx _ _ (h _ H')
  . have hj':(es.toList.map λ e=>(e.key,e.val))[j]? =some (ek k,vv u):=by rw [he,List.getElem?_map,hj]; rfl
    rw [List.getElem?_map,Array.getElem?_toList] at hj'
    cases hej:es[j]? with
    | none=>rw [hej] at hj'; cases hj'
    | some f=>
      rw [hej] at hj'
      simp only [Option.map_some,Option.some.injEq,Prod.mk.injEq] at hj'
      have hks:(Instr.keyThatStays (((es[j]?).map (·.key)).getD (ek k)) (ek k)).run P w= .ok (ek k) w:=by
        unfold Instr.keyThatStays
        rw [hej]
        simp only [Option.map_some,Option.getD_some,hj'.1,K'.same k,if_true]
        rfl
      have hrun:(Instr.mapUpdate t (.map (some g)) (ek k) (vv v)).run P w= .ok () { w with heap:=w.heap.setIfInBounds g (.map (es.modify j λ e=> { e with key:=ek k,val:=vv v }) clock) }:=by
        simp only [Instr.mapUpdate,Sem.run_bind,run_underlying ht,Go.MapKept.run_getObj_map hb,Go.MapKept.run_checkKey hd hk,Go.MapKept.run_findKey hd hf,Result.andThen_ok,hks,Go.MapKept.run_setObj_map _ hb]
      have hset:(es.modify j λ e=> { e with key:=ek k,val:=vv v }).toList.map (λ e=>(e.key,e.val))=(gU m k v).map λ p=>(ek p.1,vv p.2):=by
        rw [BV hn hj]
        apply List.ext_getElem?
        intro l
        have hel:(es.toList.map λ e=>(e.key,e.val))[l]? =(m.map λ p=>(ek p.1,vv p.2))[l]? :=by rw [he]
        simp only [List.getElem?_map,Array.getElem?_toList,Array.getElem?_modify,List.getElem?_set] at hel ⊢
        by_cases hjl:j=l
        . subst hjl
          have hlt:j < m.length:=(List.getElem?_eq_some_iff.1 hj).1
          simp [hej,hlt]
        . simp only [hjl,if_false]
          exact hel
      have H':=H.mapSet (m':=gU m k v) (clock':=clock) (wB m k v hn).1 hset
      simp only [Sem.run_bind,Sem.run_pure,Result.andThen_ok,hrun]
      exact hnx _ _ (h _ H')
theorem Kk (ek:κ->Value) (vv:ν->Value) (H:Own w0 D w L) (h:∀ g w',Own w0 D w' (pV g ek vv ([]:List (κ × ν))::L)->K (.map (some g)) w'):Do P n F w (.makeMap t none) ty K:=λ a ha op b c next Q hnx=>by
  unfold execOp
  rw [b]
  have hrun:(Instr.makeMap t none).run P w= .ok (.map (some w.heap.size)) (w.alloc (.map #[] 0)):=by
    simp [Instr.makeMap,Result.andThen]
  simp only [Option.map_none,Sem.run_bind,Sem.run_pure,Result.andThen_ok,hrun]
  exact hnx _ _ (h _ _ (H.alloc _ ⟨by simp, #[],0,by simp,rfl⟩))
end
end
section
open Go.RowKit
section
variable {κ:Type} [DecidableEq κ] {P:Program} {kt:TypeId} {ek:κ->Value}
end
section
variable {P:Program} {t:TypeId} {k:IntKind}
end
section
variable {κ ν δ τ:Type} [DecidableEq κ]
theorem getD_some {o:Option ν} {d x:ν} (h:o=some x):Option.getD o d=x:=by rw [h]; rfl
end
section
variable {κ ν:Type} [DecidableEq κ] {P:Program} {n:Nat} {F:List (Nat × Value)} {w0 w:World} {D:Nat->Prop} {L:List HP} {ty t kt e:TypeId} {K:Value->World->Prop} {x y q:Operand} {ek:κ->Value} {vv:ν->Value} {m:List (κ × ν)} {g i:Nat} {z:Value} {d0:ν}
end
section
variable {κ δ τ:Type} [DecidableEq κ] {abs:δ->τ} {m:List (κ × δ)} {mab:List (κ × τ)} {k:κ}
end
end
section
open Go.RowKit
section
variable {P:Program} {n:Nat} {F:List (Nat × Value)} {w:World} {ty:TypeId} {x y:Operand}
end
end
open List renaming getElem?_append_left->u7,length_singleton->u4,mem_append_right->u6,mem_cons->u3,nodup_append->u5
section
open Go.RowKit
def mb (k:Nat):List Nat->Bool
  | []=>false
  | j::r=>bif j7 k j then true else mb k r
theorem qO {k:Nat}:∀ {xs:List Nat},mb k xs=true↔k ∈ xs
  | []=>by simp [mb]
  | j::r=>by
    unfold mb
    by_cases e:k=j
    . subst e; simp
    . have:j7 k j=false:=by
        rw [Bool.eq_false_iff]; intro hh; exact e (l2 hh)
      rw [this,cond_false,qO,u3]
      exact⟨.inr,λ h=>h.resolve_left e⟩
def De (xs:List Nat):Nat->List HP->Option (List HP)
  | _, []=>some []
  | k,R::r=>match De xs (k+1) r with
    | some q=>bif mb k xs then some q else some (R::q)
    | none=>none
def Df:List HP->List HP->Option (List HP)
  | [],b=>some b
  | R::a,b=>match Df a b with
    | some q=>some (R::q)
    | none=>none
theorem Av:∀ (a b:List HP),Df a b=some (a++b)
  | [],b=>rfl
  | R::a,b=>by simp only [Df,Av a b,List.cons_append]
def px (L:List HP) (f dr b:List Nat):Option (List HP):=match pk L f with
  | some A=>match De (f++(dr++b)) 0 L with
    | some M=>match pk L b with
      | some B=>match Df M B with
        | some q=>Df A q
        | none=>none
      | none=>none
    | none=>none
  | none=>none
def yn (xs:List Nat):Nat->List HP->List Nat
  | _, []=> []
  | k,_::r=>bif mb k xs then yn xs (k+1) r else k::yn xs (k+1) r
theorem wZ {xs:List Nat}:∀ (r:List HP) (k j:Nat),j ∈ yn xs k r->k<=j/\j ∉ xs
  | [],k,j,h=>by cases h
  | R::r,k,j,h=>by
    unfold yn at h
    cases e:mb k xs with
    | true=>rw [e,cond_true] at h; have:=wZ r (k+1) j h; exact⟨e8,this.2⟩
    | false=>
      rw [e,cond_false] at h
      rcases u3.1 h with rfl | h
      . exact⟨Nat.le_refl _,λ hm=>by rw [qO.2 hm] at e; cases e⟩
      . have:=wZ r (k+1) j h; exact⟨e8,this.2⟩
theorem wC {xs:List Nat}:∀ (r:List HP) (k:Nat),(yn xs k r).Nodup
  | [],k=>List.nodup_nil
  | R::r,k=>by
    unfold yn
    cases e:mb k xs with
    | true=>rw [cond_true]; exact wC r (k+1)
    | false=>
      rw [cond_false,List.nodup_cons]
      exact⟨λ h=>by have:=(wZ r (k+1) k h).1; omega,wC r (k+1)⟩
theorem BX {L:List HP} {i:Nat} {r:List Nat} {R:HP} {s:List HP} (a:L[i]? =some R) (b:pk L r=some s):pk L (i::r)=some (R::s):=by
  unfold pk; rw [a,b]
theorem Aw {L:List HP}:∀ {a b:List Nat} {A B:List HP},pk L a=some A->pk L b=some B->pk L (a++b)=some (A++B)
  | [],b,A,B,c,e=>by simp only [pk,Option.some.injEq] at c; subst c; exact e
  | i::r,b,A,B,c,e=>by
    unfold pk at c
    split at c
    . rename_i R0 s g h
      simp only [Option.some.injEq] at c
      subst c
      exact BX g (Aw h e)
    . cases c
theorem Dh {xs:List Nat} {L:List HP}:∀ (r pre:List HP) (M:List HP),L=pre++r->De xs pre.length r=some M->pk L (yn xs pre.length r)=some M
  | [],pre,M,hL,h=>by simp only [De,Option.some.injEq] at h; subst h; rfl
  | R::r,pre,M,hL,h=>by
    unfold De at h
    split at h
    . rename_i q hq
      have a:=Dh (L:=L) r (pre++ [R]) q (by rw [hL,List.append_assoc]; rfl) (by rw [o0,u4]; exact hq)
      rw [o0,u4] at a
      unfold yn
      cases e:mb pre.length xs with
      | true=>rw [e,cond_true,Option.some.injEq] at h; subst h; rw [cond_true]; exact a
      | false=>
        rw [e,cond_false,Option.some.injEq] at h; subst h; rw [cond_false]
        exact BX (by rw [hL,List.getElem?_append_right (Nat.le_refl _),Nat.sub_self]; rfl) a
    . cases h
section
variable {w0 w:World} {D:Nat->Prop} {L:List HP}
theorem Own.px {L':List HP} (H:Own w0 D w L) (f dr b:List Nat) (hn:(f++b).Nodup:=by decide) (hp:px L f dr b=some L':=by exact rfl):Own w0 D w L':=by
  unfold Go.Proofs.YtndamapfnpihpaaGreat.px at hp
  split at hp
  . rename_i A hA
    split at hp
    . rename_i M hM
      split at hp
      . rename_i B hB
        rw [Av] at hp
        dsimp only at hp
        rw [Av,Option.some.injEq] at hp
        subst hp
        have hi:=wZ (xs:=f++(dr++b)) L 0
        rw [u5] at hn
        refine H.pick (f++(yn (f++(dr++b)) 0 L++b)) ?_ (Aw hA (Aw (Dh (pre:= []) L M rfl hM) hB))
        rw [u5,u5]
        refine⟨hn.1,⟨wC _ _,hn.2.1,λ x hx y hy e=>(hi x hx).2 ?_⟩,λ x hx y hy e=> ?_⟩
        . subst e; exact u6 _ (u6 _ hy)
        . subst e
          rcases List.mem_append.1 hy with h | h
          . exact(hi x h).2 (List.mem_append_left _ hx)
          . exact hn.2.2 x hx x h rfl
      . cases hp
    . cases hp
  . cases hp
theorem Own.pf {L':List HP} (H:Own w0 D w L) (f:List Nat) (hn:(f++ []).Nodup:=by decide) (hp:Go.Proofs.YtndamapfnpihpaaGreat.px L f [] []=some L':=by exact rfl):Own w0 D w L':=H.px f [] [] hn hp
theorem Own.pb {L':List HP} (H:Own w0 D w L) (b:List Nat) (hn:([]++b).Nodup:=by decide) (hp:Go.Proofs.YtndamapfnpihpaaGreat.px L [] [] b=some L':=by exact rfl):Own w0 D w L':=H.px [] [] b hn hp
end
section
variable {α:Type} {w0 w:World} {D:Nat->Prop} {L:List HP} {f:α->List HP}
theorem Jp {R0 R1 R2 R3:HP} (H:Own w0 D w (R0::R1::R2::R3::L)):∃ a:Nat->Prop,Own w a w [R0,R1,R2,R3]/\(∀ φ,Ro w0 D φ->Ro w a φ)/\(∀ w' L',Own w a w' L'->Own w0 D w' (L'++L))/\(∀ (φ:World->Prop) (i:Nat) (R:HP),L[i]? =some R->(∀ w' h,R h->(∀ k o,h k=some o->w'.heap[k]? =some o)->φ w')->Ro w a φ):=Own.enter (L1:= [R0,R1,R2,R3]) (L2:=L) H
theorem JF {R0 R1 R2 R3 R4:HP} (H:Own w0 D w (R0::R1::R2::R3::R4::L)):∃ a:Nat->Prop,Own w a w [R0,R1,R2,R3,R4]/\(∀ φ,Ro w0 D φ->Ro w a φ)/\(∀ w' L',Own w a w' L'->Own w0 D w' (L'++L))/\(∀ (φ:World->Prop) (i:Nat) (R:HP),L[i]? =some R->(∀ w' h,R h->(∀ k o,h k=some o->w'.heap[k]? =some o)->φ w')->Ro w a φ):=Own.enter (L1:= [R0,R1,R2,R3,R4]) (L2:=L) H
theorem Je {R0 R1 R2 R3 R4 R5:HP} (H:Own w0 D w (R0::R1::R2::R3::R4::R5::L)):∃ a:Nat->Prop,Own w a w [R0,R1,R2,R3,R4,R5]/\(∀ φ,Ro w0 D φ->Ro w a φ)/\(∀ w' L',Own w a w' L'->Own w0 D w' (L'++L))/\(∀ (φ:World->Prop) (i:Nat) (R:HP),L[i]? =some R->(∀ w' h,R h->(∀ k o,h k=some o->w'.heap[k]? =some o)->φ w')->Ro w a φ):=Own.enter (L1:= [R0,R1,R2,R3,R4,R5]) (L2:=L) H
theorem Jf {R0 R1 R2 R3 R4 R5 b c e g:HP} (H:Own w0 D w (R0::R1::R2::R3::R4::R5::b::c::e::g::L)):∃ a:Nat->Prop,Own w a w [R0,R1,R2,R3,R4,R5,b,c,e,g]/\(∀ φ,Ro w0 D φ->Ro w a φ)/\(∀ w' L',Own w a w' L'->Own w0 D w' (L'++L))/\(∀ (φ:World->Prop) (i:Nat) (R:HP),L[i]? =some R->(∀ w' h,R h->(∀ k o,h k=some o->w'.heap[k]? =some o)->φ w')->Ro w a φ):=Own.enter (L1:= [R0,R1,R2,R3,R4,R5,b,c,e,g]) (L2:=L) H
theorem Jk {R0 R1 R2 R3 R4 R5 g j m p a b c:HP} (H:Own w0 D w (R0::R1::R2::R3::R4::R5::g::j::m::p::a::b::c::L)):∃ e:Nat->Prop,Own w e w [R0,R1,R2,R3,R4,R5,g,j,m,p,a,b,c]/\(∀ φ,Ro w0 D φ->Ro w e φ)/\(∀ w' L',Own w e w' L'->Own w0 D w' (L'++L))/\(∀ (φ:World->Prop) (i:Nat) (R:HP),L[i]? =some R->(∀ w' h,R h->(∀ k o,h k=some o->w'.heap[k]? =some o)->φ w')->Ro w e φ):=Own.enter (L1:= [R0,R1,R2,R3,R4,R5,g,j,m,p,a,b,c]) (L2:=L) H
theorem Kb {R0 R1 R2 R3 R4 R5 j m p q a b c e:HP} (H:Own w0 D w (R0::R1::R2::R3::R4::R5::j::m::p::q::a::b::c::e::L)):∃ g:Nat->Prop,Own w g w [R0,R1,R2,R3,R4,R5,j,m,p,q,a,b,c,e]/\(∀ φ,Ro w0 D φ->Ro w g φ)/\(∀ w' L',Own w g w' L'->Own w0 D w' (L'++L))/\(∀ (φ:World->Prop) (i:Nat) (R:HP),L[i]? =some R->(∀ w' h,R h->(∀ k o,h k=some o->w'.heap[k]? =some o)->φ w')->Ro w g φ):=Own.enter (L1:= [R0,R1,R2,R3,R4,R5,j,m,p,q,a,b,c,e]) (L2:=L) H
theorem Kc {R0 R1 R2 R3 R4 R5 m p q r a b c e g:HP} (H:Own w0 D w (R0::R1::R2::R3::R4::R5::m::p::q::r::a::b::c::e::g::L)):∃ j:Nat->Prop,Own w j w [R0,R1,R2,R3,R4,R5,m,p,q,r,a,b,c,e,g]/\(∀ φ,Ro w0 D φ->Ro w j φ)/\(∀ w' L',Own w j w' L'->Own w0 D w' (L'++L))/\(∀ (φ:World->Prop) (i:Nat) (R:HP),L[i]? =some R->(∀ w' h,R h->(∀ k o,h k=some o->w'.heap[k]? =some o)->φ w')->Ro w j φ):=Own.enter (L1:= [R0,R1,R2,R3,R4,R5,m,p,q,r,a,b,c,e,g]) (L2:=L) H
theorem KE {A:Option Addr} {n n' c:Nat} {xs:List Value} {t:TypeId} {sz:Nat} (e:n=n') (H:Own w0 D w (row A n c xs t sz::L)):Own w0 D w (row A n' c xs t sz::L):=e ▸ H
end
def BZ:List Nat->List Value->Option (List (Nat × Value))
  | _, []=>some []
  | [],_::_=>none
  | k::ks,v::r=>match BZ ks r with
    | some q=>some ((k,v)::q)
    | none=>none
theorem Di:∀ (l:List Value) (k:Nat) (ks:List Nat) (F:List (Nat × Value)),(∀ i j:Nat,ks[i]? =some j->j=k+i)->BZ ks l=some F->BP k l=F
  | [],k,ks,F,h,e=>by cases ks <;> (simp only [BZ,Option.some.injEq] at e; subst e; rfl)
  | v::r,k, [],F,h,e=>by simp only [BZ] at e; cases e
  | v::r,k,j::ks,F,h,e=>by
    unfold BZ at e
    split at e
    . rename_i q hq
      simp only [Option.some.injEq] at e
      have a:=h 0 j rfl
      have:=Di r (k+1) ks q (λ i j hj=>by have:=h (i+1) j hj; omega) hq
      rw [<- e]
      unfold BP
      rw [this,a]; rfl
    . cases e
def nums:List Nat:= [0,1,2,3,4,5,6,7,8,9,10,11,12,13,14,15,16,17,18,19]
theorem E8:∀ i j:Nat,nums[i]? =some j->j=0+i:=by
  intro i j h
  have hi:=(p4.1 h).1
  have hl:nums.length=20:=rfl
  rw [hl] at hi
  have:∀ i:Nat,i < 20->nums[i]? =some i:=by decide
  rw [this i hi,Option.some.injEq] at h
  omega
theorem cb {P:Program} {n:Nat} {w:World} {f:FuncId} {fn:Func} {c:Code} {args:List Value} {G:List (Nat × Value)} {R:Ending->World->Prop} (hf:P.funcs[f]? =some fn) (h:Wp P c n G w (bodyPost P fn R)) (hb:fn.body=some c:=by exact rfl) (hn:fn.ntmps=n:=by exact rfl) (hl:Nat.ble args.length n=true:=by exact rfl)
    (hG:BZ nums args=some G:=by exact rfl):Calls P f args.toArray w R:=Kj hf hb hn hl (by rw [Di args 0 nums G E8 hG]; exact h)
abbrev vU (n:Nat):Value:= .int .u64 ((n:Nat):Int)
abbrev vJ (n:Nat):Value:= .int .i64 ((n:Nat):Int)
abbrev vI (x:Int):Value:= .int .i64 x
abbrev vP (g o:Nat):Value:= .pointer (some ⟨g,o,none⟩)
theorem mI {a:Type} (B:a->World->Prop):∃ q:(a)->World->Prop, ∀ {b:a} {w':World},q b w'↔B b w':=⟨λ x w'=>B x w',Iff.rfl⟩
theorem FT {a b:Type} (B:a->b->World->Prop):∃ q:(a × b)->World->Prop, ∀ {c:a} {e:b} {w':World},q (c,e) w'↔B c e w':=⟨λ x w'=>B x.1 x.2 w',Iff.rfl⟩
theorem yu {a b c:Type} (B:a->b->c->World->Prop):∃ q:(a × b × c)->World->Prop, ∀ {e:a} {g:b} {h:c} {w':World},q (e,g,h) w'↔B e g h w':=⟨λ x w'=>B x.1 x.2.1 x.2.2 w',Iff.rfl⟩
theorem vQ {a b c e:Type} (B:a->b->c->e->World->Prop):∃ q:(a × b × c × e)->World->Prop, ∀ {g:a} {h:b} {j:c} {k:e} {w':World},q (g,h,j,k) w'↔B g h j k w':=⟨λ x w'=>B x.1 x.2.1 x.2.2.1 x.2.2.2 w',Iff.rfl⟩
theorem FU {a b c e g:Type} (B:a->b->c->e->g->World->Prop):∃ q:(a × b × c × e × g)->World->Prop, ∀ {h:a} {j:b} {k:c} {m:e} {o:g} {w':World},q (h,j,k,m,o) w'↔B h j k m o w':=⟨λ x w'=>B x.1 x.2.1 x.2.2.1 x.2.2.2.1 x.2.2.2.2 w',Iff.rfl⟩
theorem GN {a b c e g h j k:Type} (B:a->b->c->e->g->h->j->k->World->Prop):∃ q:(a × b × c × e × g × h × j × k)->World->Prop, ∀ {m:a} {o:b} {p:c} {r:e} {s:g} {t:h} {u:j} {y:k} {w':World},q (m,o,p,r,s,t,u,y) w'↔B m o p r s t u y w':=⟨λ x w'=>B x.1 x.2.1 x.2.2.1 x.2.2.2.1 x.2.2.2.2.1 x.2.2.2.2.2.1 x.2.2.2.2.2.2.1 x.2.2.2.2.2.2.2 w',Iff.rfl⟩
theorem G7 {a b c e g h j k m o:Type} (B:a->b->c->e->g->h->j->k->m->o->World->Prop):∃ q:(a × b × c × e × g × h × j × k × m × o)->World->Prop, ∀ {p:a} {r:b} {s:c} {t:e} {u:g} {y:h} {z:j} {A:k} {C:m} {E:o} {w':World},q (p,r,s,t,u,y,z,A,C,E) w'↔B p r s t u y z A C E w':=⟨λ x w'=>B x.1 x.2.1 x.2.2.1 x.2.2.2.1 x.2.2.2.2.1 x.2.2.2.2.2.1 x.2.2.2.2.2.2.1 x.2.2.2.2.2.2.2.1 x.2.2.2.2.2.2.2.2.1 x.2.2.2.2.2.2.2.2.2 w',Iff.rfl⟩
theorem G8 {c e g h j k m o p r a:Type} (B:c->e->g->h->j->k->m->o->p->r->a->World->Prop):∃ q:(c × e × g × h × j × k × m × o × p × r × a)->World->Prop, ∀ {s:c} {t:e} {u:g} {y:h} {z:j} {A:k} {C:m} {E:o} {G:p} {H:r} {b:a} {w':World},q (s,t,u,y,z,A,C,E,G,H,b) w'↔B s t u y z A C E G H b w':=⟨λ x w'=>B x.1 x.2.1 x.2.2.1 x.2.2.2.1 x.2.2.2.2.1 x.2.2.2.2.2.1 x.2.2.2.2.2.2.1 x.2.2.2.2.2.2.2.1 x.2.2.2.2.2.2.2.2.1 x.2.2.2.2.2.2.2.2.2.1 x.2.2.2.2.2.2.2.2.2.2 w',Iff.rfl⟩
theorem G9 {u y z A C E G H I J a b c e g h j:Type} (B:u->y->z->A->C->E->G->H->I->J->a->b->c->e->g->h->j->World->Prop):∃ q:(u × y × z × A × C × E × G × H × I × J × a × b × c × e × g × h × j)->World->Prop, ∀ {K:u} {M:y} {N:z} {O:A} {R:C} {S:E} {T:G} {U:H} {V:I} {W:J} {k:a} {m:b} {o:c} {p:e} {r:g} {s:h} {t:j} {w':World},q (K,M,N,O,R,S,T,U,V,W,k,m,o,p,r,s,t) w'↔B K M N O R S T U V W k m o p r s t w':=⟨λ x w'=>B x.1 x.2.1 x.2.2.1 x.2.2.2.1 x.2.2.2.2.1 x.2.2.2.2.2.1 x.2.2.2.2.2.2.1 x.2.2.2.2.2.2.2.1 x.2.2.2.2.2.2.2.2.1 x.2.2.2.2.2.2.2.2.2.1 x.2.2.2.2.2.2.2.2.2.2.1 x.2.2.2.2.2.2.2.2.2.2.2.1 x.2.2.2.2.2.2.2.2.2.2.2.2.1 x.2.2.2.2.2.2.2.2.2.2.2.2.2.1 x.2.2.2.2.2.2.2.2.2.2.2.2.2.2.1 x.2.2.2.2.2.2.2.2.2.2.2.2.2.2.2.1 x.2.2.2.2.2.2.2.2.2.2.2.2.2.2.2.2 w',Iff.rfl⟩
theorem FV {G H I J K M N O R S a b c e g h j k m o:Type} (B:G->H->I->J->K->M->N->O->R->S->a->b->c->e->g->h->j->k->m->o->World->Prop):∃ q:(G × H × I × J × K × M × N × O × R × S × a × b × c × e × g × h × j × k × m × o)->World->Prop, ∀ {T:G} {U:H} {V:I} {W:J} {X:K} {Y:M} {Z:N} {a7:O} {a8:R} {a9:S} {p:a} {r:b} {s:c} {t:e} {u:g} {y:h} {z:j} {A:k} {C:m} {E:o} {w':World},q (T,U,V,W,X,Y,Z,a7,a8,a9,p,r,s,t,u,y,z,A,C,E) w'↔B T U V W X Y Z a7 a8 a9 p r s t u y z A C E w':=⟨λ x w'=>B x.1 x.2.1 x.2.2.1 x.2.2.2.1 x.2.2.2.2.1 x.2.2.2.2.2.1 x.2.2.2.2.2.2.1 x.2.2.2.2.2.2.2.1 x.2.2.2.2.2.2.2.2.1 x.2.2.2.2.2.2.2.2.2.1 x.2.2.2.2.2.2.2.2.2.2.1 x.2.2.2.2.2.2.2.2.2.2.2.1 x.2.2.2.2.2.2.2.2.2.2.2.2.1 x.2.2.2.2.2.2.2.2.2.2.2.2.2.1 x.2.2.2.2.2.2.2.2.2.2.2.2.2.2.1 x.2.2.2.2.2.2.2.2.2.2.2.2.2.2.2.1 x.2.2.2.2.2.2.2.2.2.2.2.2.2.2.2.2.1 x.2.2.2.2.2.2.2.2.2.2.2.2.2.2.2.2.2.1 x.2.2.2.2.2.2.2.2.2.2.2.2.2.2.2.2.2.2.1 x.2.2.2.2.2.2.2.2.2.2.2.2.2.2.2.2.2.2.2 w',Iff.rfl⟩
theorem Ha {T U V W X Y Z T7 T8 T9 a b c e g h j k m o p r s t u:Type} (B:T->U->V->W->X->Y->Z->T7->T8->T9->a->b->c->e->g->h->j->k->m->o->p->r->s->t->u->World->Prop):∃ q:(T × U × V × W × X × Y × Z × T7 × T8 × T9 × a × b × c × e × g × h × j × k × m × o × p × r × s × t × u)->World->Prop, ∀ {a0:T} {a1:U} {a2:V} {a3:W} {a4:X} {a5:Y} {a6:Z} {a7:T7} {a8:T8} {a9:T9} {y:a} {z:b} {A:c} {C:e} {E:g} {G:h} {H:j} {I:k} {J:m} {K:o} {M:p} {N:r} {O:s} {R:t} {S:u} {w':World},q (a0,a1,a2,a3,a4,a5,a6,a7,a8,a9,y,z,A,C,E,G,H,I,J,K,M,N,O,R,S) w'↔B a0 a1 a2 a3 a4 a5 a6 a7 a8 a9 y z A C E G H I J K M N O R S w':=⟨λ x w'=>B x.1 x.2.1 x.2.2.1 x.2.2.2.1 x.2.2.2.2.1 x.2.2.2.2.2.1 x.2.2.2.2.2.2.1 x.2.2.2.2.2.2.2.1 x.2.2.2.2.2.2.2.2.1 x.2.2.2.2.2.2.2.2.2.1 x.2.2.2.2.2.2.2.2.2.2.1 x.2.2.2.2.2.2.2.2.2.2.2.1 x.2.2.2.2.2.2.2.2.2.2.2.2.1 x.2.2.2.2.2.2.2.2.2.2.2.2.2.1 x.2.2.2.2.2.2.2.2.2.2.2.2.2.2.1 x.2.2.2.2.2.2.2.2.2.2.2.2.2.2.2.1 x.2.2.2.2.2.2.2.2.2.2.2.2.2.2.2.2.1 x.2.2.2.2.2.2.2.2.2.2.2.2.2.2.2.2.2.1 x.2.2.2.2.2.2.2.2.2.2.2.2.2.2.2.2.2.2.1 x.2.2.2.2.2.2.2.2.2.2.2.2.2.2.2.2.2.2.2.1 x.2.2.2.2.2.2.2.2.2.2.2.2.2.2.2.2.2.2.2.2.1 x.2.2.2.2.2.2.2.2.2.2.2.2.2.2.2.2.2.2.2.2.2.1 x.2.2.2.2.2.2.2.2.2.2.2.2.2.2.2.2.2.2.2.2.2.2.1 x.2.2.2.2.2.2.2.2.2.2.2.2.2.2.2.2.2.2.2.2.2.2.2.1 x.2.2.2.2.2.2.2.2.2.2.2.2.2.2.2.2.2.2.2.2.2.2.2.2 w',Iff.rfl⟩
def FW (ops:Array Oper) (k:Nat) (ok:Nat->Bool):Bool:=(ops[k]?).any λ o=>o.after.toList.any λ e=>Region.binds .any e && ok e.on
def EO (ops:Array Oper) (i:Nat):List Nat->List Nat->List Nat
  | [],a=>a
  | k::r,a=>EO ops i r (bif FW ops k (λ j=>j7 j i || mb j a) then k::a else a)
theorem Ca {ops:Array Oper} {i:Nat}:∀ (ks a:List Nat),(∀ k ∈ a, ∃ r,way ops i k r=true)->∀ k ∈ EO ops i ks a, ∃ r,way ops i k r=true
  | [],a,h=>h
  | k::r,a,h=>by
    unfold EO
    refine Ca r _ ?_
    cases e:FW ops k (λ j=>j7 j i || mb j a) with
    | false=>rw [cond_false]; exact h
    | true=>
      rw [cond_true]
      intro q hq
      rcases u3.1 hq with rfl | hq
      . unfold FW at e
        rw [Option.any_eq_true] at e
        obtain⟨o,ho,e⟩:=e
        rw [l4] at e
        obtain⟨x,hx,e⟩:=e
        rw [Bool.and_eq_true,Bool.or_eq_true] at e
        rcases e.2 with b | b
        . refine⟨[], ?_⟩
          unfold way
          rw [ho,Option.any_some,l4]
          exact⟨x,hx,by rw [e.1,l2 b]; simp⟩
        . obtain⟨c,g⟩:=h _ (qO.1 b)
          refine⟨x.on::c, ?_⟩
          unfold way
          rw [ho,Option.any_some,g,Bool.and_true,l4]
          exact⟨x,hx,by rw [e.1]; simp⟩
      . exact h q hq
def FX:Nat->Nat->List Nat
  | _,0=> []
  | k,m+1=>k::FX (k+1) m
def uH (ops:Array Oper) (ks:List Nat) (i:Nat) (l:List Nat) (d n:Nat):Bool:=
  Region.free .any ops (kg ops.size l) i && (Region.ready .any ops (kg ops.size l)).contains i && ks.all (λ k=>mb k (EO ops i (FX 0 ops.size) []) && !(k==i)) && Nat.blt d n
theorem Cb {ops:Array Oper} {i:Nat} {a:List Nat} (h:∀ k ∈ a, ∃ r,way ops i k r=true):∀ ks:List Nat,ks.all (λ k=>mb k a && !(k==i))=true->∃ rs,ways ops i ks rs=true
  | [],_=>⟨[],rfl⟩
  | k::ks,hk=>by
    rw [List.all_cons,Bool.and_eq_true,Bool.and_eq_true] at hk
    obtain⟨rs,b⟩:=Cb h ks hk.2
    obtain⟨r,c⟩:=h k (qO.1 hk.1.1)
    refine⟨r::rs, ?_⟩
    unfold ways
    rw [c,hk.1.2,b]; rfl
theorem FY {ops:Array Oper} {ks:List Nat} {i:Nat} {l:List Nat} {d n:Nat} (h:uH ops ks i l d n=true):∃ rs,tk ops ks rs i l d n=true:=by
  simp only [uH,Bool.and_eq_true] at h
  obtain⟨rs,hr⟩:=Cb (Ca (ops:=ops) (i:=i) (FX 0 ops.size) [] (λ k hk=>by cases hk)) ks h.1.2
  refine⟨rs, ?_⟩
  simp only [tk,Bool.and_eq_true]
  exact⟨⟨⟨h.1.1.1,h.1.1.2⟩,hr⟩,h.2⟩
def Cc:Nat->List HP->Option (List HP × List HP)
  | 0,l=>some ([],l)
  | _+1, []=>none
  | k+1,R::r=>match Cc k r with
    | some (a,b)=>some (R::a,b)
    | none=>none
theorem Ay:∀ (k:Nat) (l a b:List HP),Cc k l=some (a,b)->l=a++b
  | 0,l,a,b,h=>by simp only [Cc,Option.some.injEq,Prod.mk.injEq] at h; obtain⟨rfl,rfl⟩:=h; rfl
  | k+1, [],a,b,h=>by cases h
  | k+1,R::r,a,b,h=>by
    unfold Cc at h
    split at h
    . rename_i a' b' hq
      simp only [Option.some.injEq,Prod.mk.injEq] at h
      obtain⟨rfl,rfl⟩:=h
      rw [Ay k r a' b' hq]; rfl
    . cases h
section
variable {P:Program} {ops:Array Oper} {Q:Exit->Act->World->Prop} {ks:List Nat} {Good:World->Prop} {n:Nat} {F:List (Nat × Value)} {w w0:World} {D:Nat->Prop} {L:List HP} {op:Op} {ty:TypeId} {v:Value} {fuel:Nat} {l:List Nat} {pos:String} {aft:Array Edge} {d:Nat} {x:Operand}
theorem qt (i:Nat) (hi:ops[i]? =some ⟨some d,op,ty,pos,aft,none⟩) (hy:∀ W,Good W->Yl P n F W op ty v) (h:GX P ops Q ks Good fuel (i::l) n ((d,v)::F) w) (hk:uH ops ks i l d n=true:=by kernel_rfl):GX P ops Q ks Good (fuel+1) l n F w:=
  let ⟨rs,hr⟩:=FY hk
  GX.take (rs:=rs) i hi hr hy h
theorem qv (i:Nat) (hi:ops[i]? =some ⟨some d, .move x,ty,pos,aft,none⟩) (hx:ev F x=some v) (h:GX P ops Q ks Good fuel (i::l) n ((d,v)::F) w) (hk:uH ops ks i l d n=true:=by kernel_rfl):GX P ops Q ks Good (fuel+1) l n F w:=
  qt i hi (λ _ _=>Ie hx) h hk
theorem qa (i:Nat) (hi:ops[i]? =some ⟨some d, .assign x,ty,pos,aft,none⟩) (hx:ev F x=some v) (h:GX P ops Q ks Good fuel (i::l) n ((d,v)::F) w) (hk:uH ops ks i l d n=true:=by kernel_rfl):GX P ops Q ks Good (fuel+1) l n F w:=
  qt i hi (λ _ _=>Jc hx) h hk
theorem qk (v:Value) (i:Nat) (hi:ops[i]? =some ⟨some d,op,ty,pos,aft,none⟩) (h:GX P ops Q ks Good fuel (i::l) n ((d,v)::F) w) (hk:uH ops ks i l d n=true:=by kernel_rfl) (a:known F op.operands.toList=true:=by exact rfl) (hs:pI op=true:=by exact rfl)
    (hr:∀ W,(execOp (og F) ⟨none,op,ty, "", #[],none⟩).run P W= .ok (.value v) W:=by intro _; kernel_rfl):GX P ops Q ks Good (fuel+1) l n F w:=qt i hi (λ _ _=>JA a hs hr) h hk
theorem qp (g o:Nat) (i:Nat) (hi:ops[i]? =some ⟨some d,op,ty,pos,aft,none⟩) (h:GX P ops Q ks Good fuel (i::l) n ((d, .pointer (some ⟨g,o,none⟩))::F) w) (hk:uH ops ks i l d n=true:=by kernel_rfl) (a:known F op.operands.toList=true:=by exact rfl) (hs:pI op=true:=by exact rfl)
    (hr:∀ W,(execOp (og F) ⟨none,op,ty, "", #[],none⟩).run P W= .ok (.value (.pointer (some ⟨g,o,none⟩))) W:=by intro _; kernel_rfl):GX P ops Q ks Good (fuel+1) l n F w:=qt i hi (λ _ _=>JA a hs hr) h hk
theorem ql {T:TypeId} {g o:Nat} {cs:List Value} {t:TypeId} (i:Nat) (hi:ops[i]? =some ⟨some d, .load T x,ty,pos,aft,none⟩) (j:Nat) (ha:∀ W,(isAgg T).run P W= .ok false W) (hj:L[j]? =some (blk g cs t)) (hx:ev F x=some (.pointer (some ⟨g,o,none⟩))) (hv:cs[o]? =some v)
    (h:GX P ops Q ks (λ W=> ∃ L',Own w0 D W (L++L')) fuel (i::l) n ((d,v)::F) w) (hk:uH ops ks i l d n=true:=by kernel_rfl):GX P ops Q ks (λ W=> ∃ L',Own w0 D W (L++L')) (fuel+1) l n F w:=
  qt i hi (λ _ ⟨L',H⟩=>Il hx (bQ.one ha (IU (H.cls (i:=j) (by rw [u7 (p4.1 hj).1]; exact hj)) hv))) h hk
theorem qb {T:TypeId} {g m:Nat} {cs:List Value} {t:TypeId} (i:Nat) (hi:ops[i]? =some ⟨some d, .load T x,ty,pos,aft,none⟩) (j:Nat) (ha:∀ W,(isAgg T).run P W= .ok true W) (hS:∀ W,(sizeOf T).run P W= .ok m W) (hj:L[j]? =some (blk g cs t)) (hx:ev F x=some (.pointer (some ⟨g,0,none⟩))) (hm:cs.length=m)
    (h:GX P ops Q ks (λ W=> ∃ L',Own w0 D W (L++L')) fuel (i::l) n ((d, .agg cs.toArray)::F) w) (hk:uH ops ks i l d n=true:=by kernel_rfl):GX P ops Q ks (λ W=> ∃ L',Own w0 D W (L++L')) (fuel+1) l n F w:=
  qt i hi (λ _ ⟨L',H⟩=>Il hx (Io ha (by rw [hm]; exact hS) (H.cls (i:=j) (by rw [u7 (p4.1 hj).1]; exact hj)))) h hk
theorem qd (i:Nat) (hi:ops[i]? =some ⟨some d,op,ty,pos,aft,none⟩)
    (h:Do P n F w op ty λ v w'=>(ks.any (λ k=>(kg ops.size (i::l)).getD k false)=true\/Good w')/\GX P ops Q ks Good fuel (i::l) n ((d,v)::F) w') (hk:(dx ops i l && Nat.blt d n)=true:=by kernel_rfl):GX P ops Q ks Good (fuel+1) l n F w:=GX.do i hi hk h
theorem qe (i:Nat) (hi:ops[i]? =some ⟨none,op,ty,pos,aft,none⟩)
    (h:Do P n F w op ty λ _ w'=>(ks.any (λ k=>(kg ops.size (i::l)).getD k false)=true\/Good w')/\GX P ops Q ks Good fuel (i::l) n F w') (hk:dx ops i l=true:=by kernel_rfl):GX P ops Q ks Good (fuel+1) l n F w:=KQ i hi hk h
theorem qn (h:Fin Q .normal n F w) (hk:(Region.ready .any ops (kg ops.size l)).isEmpty=true:=by kernel_rfl):GX P ops Q ks Good fuel l n F w:=KJ hk h
theorem AA {i:Nat} {lo:List Oper} (A:List HP) (ks:List Nat) (H:Own w0 D w (A++L)) (hQ:bH Q) (h:∀ w',Own w0 D w' (A++L)->GX P lo.toArray Q ks (λ W=> ∃ L',Own w0 D W (A++L')) lo.length [] n F w')
    (hm:P.follows .mixedOrders=true) (hns:Region.noSelect lo.toArray=true):Wp P (.region i lo.toArray true) n F w Q:=Jm ks _ hm hns hQ ⟨_,H.drew⟩ (h _ H.drew)
variable {R0 R1 R2 R3 R4 R5:HP} {i:Nat} {lo:List Oper}
theorem Ce (ks:List Nat) (hQ:bH Q) (H:Own w0 D w L) (h:∀ w',Own w0 D w' L->GX P lo.toArray Q ks (λ W=> ∃ L',Own w0 D W ([]++L')) lo.length [] n F w')
    (hm:P.follows .mixedOrders=true:=by kernel_rfl) (hns:Region.noSelect lo.toArray=true:=by kernel_rfl):Wp P (.region i lo.toArray true) n F w Q:=AA [] ks H hQ h hm hns
theorem Cf (ks:List Nat) (hQ:bH Q) (H:Own w0 D w (R0::L)) (h:∀ w',Own w0 D w' (R0::L)->GX P lo.toArray Q ks (λ W=> ∃ L',Own w0 D W ([R0]++L')) lo.length [] n F w')
    (hm:P.follows .mixedOrders=true:=by kernel_rfl) (hns:Region.noSelect lo.toArray=true:=by kernel_rfl):Wp P (.region i lo.toArray true) n F w Q:=AA [R0] ks H hQ h hm hns
theorem oO (ks:List Nat) (hQ:bH Q) (H:Own w0 D w (R0::R1::L)) (h:∀ w',Own w0 D w' (R0::R1::L)->GX P lo.toArray Q ks (λ W=> ∃ L',Own w0 D W ([R0,R1]++L')) lo.length [] n F w')
    (hm:P.follows .mixedOrders=true:=by kernel_rfl) (hns:Region.noSelect lo.toArray=true:=by kernel_rfl):Wp P (.region i lo.toArray true) n F w Q:=AA [R0,R1] ks H hQ h hm hns
theorem yw (ks:List Nat) (hQ:bH Q) (H:Own w0 D w (R0::R1::R2::L)) (h:∀ w',Own w0 D w' (R0::R1::R2::L)->GX P lo.toArray Q ks (λ W=> ∃ L',Own w0 D W ([R0,R1,R2]++L')) lo.length [] n F w')
    (hm:P.follows .mixedOrders=true:=by kernel_rfl) (hns:Region.noSelect lo.toArray=true:=by kernel_rfl):Wp P (.region i lo.toArray true) n F w Q:=AA [R0,R1,R2] ks H hQ h hm hns
theorem EP (ks:List Nat) (hQ:bH Q) (H:Own w0 D w (R0::R1::R2::R3::R4::L)) (h:∀ w',Own w0 D w' (R0::R1::R2::R3::R4::L)->GX P lo.toArray Q ks (λ W=> ∃ L',Own w0 D W ([R0,R1,R2,R3,R4]++L')) lo.length [] n F w')
    (hm:P.follows .mixedOrders=true:=by kernel_rfl) (hns:Region.noSelect lo.toArray=true:=by kernel_rfl):Wp P (.region i lo.toArray true) n F w Q:=AA [R0,R1,R2,R3,R4] ks H hQ h hm hns
theorem GQ (ks:List Nat) (hQ:bH Q) (H:Own w0 D w (R0::R1::R2::R3::R4::R5::L)) (h:∀ w',Own w0 D w' (R0::R1::R2::R3::R4::R5::L)->GX P lo.toArray Q ks (λ W=> ∃ L',Own w0 D W ([R0,R1,R2,R3,R4,R5]++L')) lo.length [] n F w')
    (hm:P.follows .mixedOrders=true:=by kernel_rfl) (hns:Region.noSelect lo.toArray=true:=by kernel_rfl):Wp P (.region i lo.toArray true) n F w Q:=AA [R0,R1,R2,R3,R4,R5] ks H hQ h hm hns
theorem mJ {A B:List HP} (k:Nat) (ks:List Nat) (hQ:bH Q) (H:Own w0 D w L) (h:∀ w',Own w0 D w' L->GX P lo.toArray Q ks (λ W=> ∃ L',Own w0 D W (A++L')) lo.length [] n F w') (hA:Cc k L=some (A,B):=by exact rfl)
    (hm:P.follows .mixedOrders=true:=by kernel_rfl) (hns:Region.noSelect lo.toArray=true:=by kernel_rfl):Wp P (.region i lo.toArray true) n F w Q:=by
  have e:=Ay k L A B hA
  subst e
  exact AA A ks H hQ h hm hns
theorem GR (H:Own w0 D w (R0::L)) (h:GX P ops Q ks (λ W=> ∃ L',Own w0 D W ([R0]++L')) fuel l n F w):GX P ops Q ks (λ W=> ∃ L',Own w0 D W ([]++L')) fuel l n F w:=
  JN (λ _ ⟨L',h⟩=>⟨[R0]++L',h⟩) ⟨_,H⟩ h
end
end
section
open Go.RowKit
structure Eff where
  i:Nat
  d:Nat
  op:Op
  ty:TypeId
  pos:String
  aft:Array Edge
  γ:Type
  v:γ->Value
  p:γ->Prop
  R:γ->List HP
def CB (ops:Array Oper):Nat->List Nat->List Nat->Bool
  | 0,rs,l=>rs.isEmpty
  | f+1,rs,l=>rs.isEmpty || ((Region.ready .any ops (kg ops.size l)).all (λ q=>mb q rs) && !(Region.ready .any ops (kg ops.size l)).isEmpty && rs.all λ i=>CB ops f (rs.erase i) (i::l))
def CE (ops:Array Oper) (last:Nat):Nat->List Nat->List Nat->Bool
  | 0,rs,l=>rs.isEmpty
  | f+1,rs,l=>rs.isEmpty || ((Region.ready .any ops (kg ops.size l)).all (λ q=>mb q (last::rs)) && !(Region.ready .any ops (kg ops.size l)).isEmpty && (rs.all λ i=>CE ops last f (rs.erase i) (i::l)) && CB ops (f+1) rs (last::l))
def Cn (B:List HP->List Nat->List (Nat × Value)->Prop):List Eff->List HP->List Nat->List (Nat × Value)->Prop
  | [],L',l,F=>B L' l F
  | e::es,L',l,F=> ∀ g,e.p g->Cn B es (e.R g++L') (e.i::l) ((e.d,e.v g)::F)
def Sm (ops:Array Oper) (B:List HP->List Nat->List (Nat × Value)->Prop):Prop:=∀ L1 L2 l1 a b d,L1.Perm L2->kg ops.size l1=kg ops.size a->(∀ t,look b t=look d t)->B L1 l1 b->B L2 a d
theorem um {a b:List (Nat × Value)} (h:∀ t,look a t=look b t) (d:Nat) (v:Value):∀ t,look ((d,v)::a) t=look ((d,v)::b) t:=λ t=>by
  unfold look; rw [h t]
theorem wD {F:List (Nat × Value)} {d e:Nat} (v u:Value) (hd:d≠e):∀ t,look ((d,v)::(e,u)::F) t=look ((e,u)::(d,v)::F) t:=λ t=>by
  simp only [look]
  by_cases b:d=t
  . have f:e≠t:=λ h=>hd (b.trans h.symm)
    have a:Nat.beq e t=false:=by rw [Bool.eq_false_iff]; intro hh; exact f (Nat.eq_of_beq_eq_true hh)
    rw [a]; simp
  . have a:Nat.beq d t=false:=by rw [Bool.eq_false_iff]; intro hh; exact b (Nat.eq_of_beq_eq_true hh)
    rw [a]; simp
theorem oo {n:Nat} {l1 a:List Nat} (h:kg n l1=kg n a) (i:Nat):kg n (i::l1)=kg n (i::a):=by unfold kg; rw [h]
theorem xD {n:Nat} {l:List Nat} {i j:Nat} (h:i≠j):kg n (i::j::l)=kg n (j::i::l):=by
  simp only [kg]; exact Array.setIfInBounds_comm _ _ h.symm
theorem Cn.same {ops:Array Oper} {B:List HP->List Nat->List (Nat × Value)->Prop} (hB:Sm ops B):∀ es:List Eff,Sm ops (Cn B es)
  | []=>hB
  | e::es=>λ L1 L2 l1 a b d hp hl hF h g hg=>Cn.same hB es _ _ _ _ _ _ (hp.append_left _) (oo hl _) (um hF _ _) (h g hg)
def Dj (e f:Eff):Prop:=e.i≠f.i/\e.d≠f.d
theorem AB {α:Type} (a b c:List α):(a++(b++c)).Perm (b++(a++c)):=by
  rw [<- List.append_assoc, <- List.append_assoc]; exact List.perm_append_comm.append_right _
theorem Cn.swap {ops:Array Oper} {B:List HP->List Nat->List (Nat × Value)->Prop} (hB:Sm ops B) {e f:Eff} {es:List Eff} (hd:Dj e f) {L':List HP} {l:List Nat} {F:List (Nat × Value)} (h:Cn B (e::f::es) L' l F):Cn B (f::e::es) L' l F:=λ g hg g' hg'=>
  Cn.same hB es _ _ _ _ _ _ (AB _ _ _) (xD hd.1.symm) (wD _ _ hd.2.symm) (h g' hg' g hg)
theorem JQ {ops:Array Oper} {B:List HP->List Nat->List (Nat × Value)->Prop} (hB:Sm ops B) {e:Eff} {bs:List Eff}:∀ (us:List Eff) (L':List HP) (l:List Nat) (F:List (Nat × Value)),(∀ a ∈ us,Dj a e)->Cn B (us++e::bs) L' l F->Cn B (e::(us++bs)) L' l F
  | [],L',l,F,_,h=>h
  | a::us,L',l,F,hd,h=>Cn.swap hB (hd a b3) (es:=us++bs) λ g hg=>JQ hB us _ _ _ (λ x hx=>hd x (.tail _ hx)) (h g hg)
theorem Do.frame {P:Program} {n:Nat} {F G:List (Nat × Value)} {w:World} {op:Op} {ty:TypeId} {K:Value->World->Prop} (hs:∀ t v,look G t=some v->look F t=some v) (h:Do P n G w op ty K):Do P n F w op ty K:=λ a ha=>h a ⟨ha.size,λ t v hv=>ha.at_ t v (hs t v hv)⟩
theorem Yl.frame {P:Program} {n:Nat} {F G:List (Nat × Value)} {w:World} {op:Op} {ty:TypeId} {v:Value} (hs:∀ t v,look G t=some v->look F t=some v) (h:Yl P n G w op ty v):Yl P n F w op ty v:=λ a ha=>h a ⟨ha.size,λ t v hv=>ha.at_ t v (hs t v hv)⟩
theorem GX.same {P:Program} {ops:Array Oper} {Q:Exit->Act->World->Prop} {ks:List Nat} {Good:World->Prop} {fuel n:Nat} {l1 b:List Nat} {d f:List (Nat × Value)} {w:World} (hl:kg ops.size l1=kg ops.size b) (hF:∀ t,look d t=look f t) (h:GX P ops Q ks Good fuel l1 n d w):GX P ops Q ks Good fuel b n f w:=λ hQ hs=>by
  have g:=h hQ hs
  rw [hl] at g
  exact λ hc hS a ha=>g hc hS a ⟨⟨ha.size,λ t v hv=>ha.at_ t v (by rw [<- hF]; exact hv)⟩,ha.defers⟩
section
variable {P:Program} {ops:Array Oper} {Q:Exit->Act->World->Prop} {ks:List Nat} {Good:World->Prop} {n:Nat} {w0:World} {D:Nat->Prop} {L:List HP} {G:List (Nat × Value)}
def Dk (P:Program) (ops:Array Oper) (n:Nat) (w0:World) (D:Nat->Prop) (L:List HP) (G:List (Nat × Value)) (e:Eff):Prop:=
  ops[e.i]? =some ⟨some e.d,e.op,e.ty,e.pos,e.aft,none⟩/\Nat.blt e.d n=true/\look G e.d=none/\∀ w L',Own w0 D w (sepL L'::L)->Do P n G w e.op e.ty λ u w'=> ∃ g,u=e.v g/\e.p g/\Own w0 D w' (e.R g++(sepL L'::L))
theorem yx {w:World} {R L':List HP} (H:Own w0 D w (R++(sepL L'::L))):Own w0 D w (sepL (R++L')::L):=by
  have b:Own w0 D w (sepL L'::(R++L)):=H.perm List.perm_middle
  have a:=b.flat
  rw [<- List.append_assoc] at a
  exact(a.perm (List.perm_append_comm.append_right _)).pack
theorem tK {F:List (Nat × Value)} (hs:∀ t v,look G t=some v->look F t=some v) {d:Nat} (hd:look G d=none) (u:Value):∀ t v,look G t=some v->look ((d,u)::F) t=some v:=λ t v h=>by
  unfold look
  by_cases e:d=t
  . subst e; rw [hd] at h; cases h
  . have:Nat.beq d t=false:=by rw [Bool.eq_false_iff]; intro hh; exact e (Nat.eq_of_beq_eq_true hh)
    rw [this]; exact hs t v h
theorem AC {es:List Eff} {q:Nat} (h:mb q (es.map Eff.i)=true):∃ us e bs,es=us++e::bs/\e.i=q:=by
  obtain⟨e,he,hq⟩:=List.mem_map.1 (qO.1 h)
  obtain⟨us,bs,hs⟩:=List.append_of_mem he
  exact⟨us,e,bs,hs,hq⟩
theorem Dl {us bs:List Eff} {e:Eff} (hd:∀ a ∈ us,Dj a e):(List.map Eff.i (us++e::bs)).erase e.i=List.map Eff.i (us++bs):=by
  rw [List.map_append,List.map_append,List.map_cons,List.erase_append_right _ (λ hm=> ?_),List.erase_cons_head]
  obtain⟨a,ha,h⟩:=List.mem_map.1 hm
  exact(hd a ha).1 h
def Ds:List Eff->Prop
  | []=>True
  | e::es=>(∀ f ∈ es,Dj e f)/\Ds es
theorem Ds.mid {e:Eff} {bs:List Eff}:∀ {us:List Eff},Ds (us++e::bs)->(∀ a ∈ us,Dj a e)/\Ds (us++bs)
  | [],h=>⟨λ a ha=>(by cases ha),h.2⟩
  | a::us,h=>by
    have d:=Ds.mid h.2
    refine⟨λ x hx=> ?_,λ f hf=>h.1 f ?_,d.2⟩
    . rcases List.mem_cons.1 hx with rfl | hx
      . exact h.1 e (List.mem_append_right _ b3)
      . exact d.1 x hx
    . rcases List.mem_append.1 hf with b | b
      . exact List.mem_append_left _ b
      . exact List.mem_append_right _ (.tail _ b)
theorem FZ {B:List HP->List Nat->List (Nat × Value)->Prop} (hB:Sm ops B) (hg:∀ w' L',Own w0 D w' (sepL L'::L)->Good w') {fuel:Nat}
    (hK:∀ L' l F w',(∀ t v,look G t=some v->look F t=some v)->Own w0 D w' (sepL L'::L)->B L' l F->GX P ops Q ks Good fuel l n F w'):
    ∀ (m:Nat) (es:List Eff),es.length=m->∀ (L':List HP) (l:List Nat) (F:List (Nat × Value)) (w:World),(∀ t v,look G t=some v->look F t=some v)->(∀ e ∈ es,Dk P ops n w0 D L G e)->Ds es->CB ops m (es.map Eff.i) l=true->Own w0 D w (sepL L'::L)->Cn B es L' l F->GX P ops Q ks Good (fuel+m) l n F w
  | 0,es,hm,L',l,F,w,hs,hE,hd,hk,H,h=>by
    rw [List.length_eq_zero_iff] at hm; subst hm
    exact hK L' l F w hs H h
  | m+1,es,hm,L',l,F,w,hs,hE,hd,hk,H,h=>by
    have hne:(es.map Eff.i).isEmpty=false:=by
      cases es with
      | nil=>cases hm
      | cons _ _=>rfl
    unfold CB at hk
    simp only [hne,Bool.false_or,Bool.and_eq_true,Bool.not_eq_true'] at hk
    refine λ hQ hns=>GW.any rfl hk.1.2 λ q hq=> ?_
    obtain⟨us,e,bs,rfl,rfl⟩:=AC (List.all_eq_true.1 hk.1.1 q hq)
    have hdm:=Ds.mid hd
    have hke:=List.all_eq_true.1 hk.2 e.i (List.mem_map.2 ⟨e,List.mem_append_right _ b3,rfl⟩)
    rw [Dl hdm.1] at hke
    obtain⟨hi,hbl,hfr,hdo⟩:=hE e (List.mem_append_right _ b3)
    have hc:=JQ hB us L' l F hdm.1 h
    refine GO.do hi hbl rfl (((hdo w L' H).frame hs).mono ?_)
    rintro _ w' ⟨g,rfl,hp,H'⟩
    have b:=yx H'
    refine⟨.inr (hg _ _ b),FZ hB hg hK m (us++bs) ?_ _ (e.i::l) _ w' (tK hs hfr _) (λ x hx=>hE x ?_) hdm.2 hke b (hc g hp) hQ hns⟩
    . simp only [List.length_append,List.length_cons] at hm ⊢; omega
    . rcases List.mem_append.1 hx with a | a
      . exact List.mem_append_left _ a
      . exact List.mem_append_right _ (.tail _ a)
def BM (P:Program) (ops:Array Oper) (Q:Exit->Act->World->Prop) (ks:List Nat) (Good:World->Prop) (n:Nat) (w0:World) (D:Nat->Prop) (L:List HP) (fuel im dm:Nat) (op:Op) (ty:TypeId) (e:Eff) (L':List HP) (l:List Nat) (F:List (Nat × Value)):Prop:=
  ∃ vm,(∀ W,Yl P n F W op ty vm)/\∀ g,e.p g->∀ w',Own w0 D w' (sepL (e.R g++L')::L)->GX P ops Q ks Good fuel (e.i::im::l) n ((e.d,e.v g)::(dm,vm)::F) w'
theorem BM.same {fuel im dm:Nat} {op:Op} {ty:TypeId} {e:Eff}:Sm ops (BM P ops Q ks Good n w0 D L fuel im dm op ty e):=λ L1 L2 l1 d f i hp hl hF ⟨vm,hy,h⟩=>
  ⟨vm,λ W=>(hy W).frame (λ t v hv=>by rw [<- hF]; exact hv),λ g hg w' H=>(h g hg w' (by
    have a:=H.flat
    rw [List.append_assoc] at a
    have b:=(a.perm ((hp.symm.append_right _).append_left _))
    rw [<- List.append_assoc] at b
    exact b.pack)).same (oo (oo hl _) _) (um (um hF _ _) _ _)⟩
def xE (P:Program) (ops:Array Oper) (n:Nat) (w0:World) (D:Nat->Prop) (L:List HP) (G:List (Nat × Value)):List Eff->Prop
  | []=>True
  | e::es=>Dk P ops n w0 D L G e/\xE P ops n w0 D L G es
theorem xE.all:∀ {es:List Eff},xE P ops n w0 D L G es->∀ e ∈ es,Dk P ops n w0 D L G e
  | [],_,e,he=>by cases he
  | f::es,h,e,he=>by
    rcases List.mem_cons.1 he with rfl | he
    . exact h.1
    . exact xE.all h.2 e he
def wE:List Nat->Bool
  | []=>true
  | k::r=> !(mb k r) && wE r
theorem Dm {k:Nat} {r:List Nat} (h:wE (k::r)=true):wE r=true:=by
  unfold wE at h; rw [Bool.and_eq_true] at h; exact h.2
theorem EQ:∀ {es:List Eff},wE (es.map Eff.i)=true->wE (es.map Eff.d)=true->Ds es
  | [],_,_=>trivial
  | e::es,a,b=>by
    simp only [List.map_cons,wE,Bool.and_eq_true,Bool.not_eq_true'] at a b
    refine⟨λ f hf=>⟨λ he=> ?_,λ he=> ?_⟩,EQ a.2 b.2⟩
    . have:mb e.i (es.map Eff.i)=true:=qO.2 (List.mem_map.2 ⟨f,hf,he.symm⟩)
      rw [a.1] at this; cases this
    . have:mb e.d (es.map Eff.d)=true:=qO.2 (List.mem_map.2 ⟨f,hf,he.symm⟩)
      rw [b.1] at this; cases this
def Dp:List Eff->List Nat->List Nat
  | [],l=>l
  | e::es,l=>Dp es (e.i::l)
theorem Kr {B:List HP->List Nat->List (Nat × Value)->Prop} {d:Nat}:∀ {es:List Eff} {L':List HP} {l:List Nat} {F:List (Nat × Value)},look F d=none->(∀ e ∈ es,d≠e.d)->Cn B es L' l F->Cn (λ L' l' F=>B L' l' F/\kg ops.size l'=kg ops.size (Dp es l)/\look F d=none) es L' l F
  | [],L',l,F,a,b,h=>⟨h,rfl,a⟩
  | e::es,L',l,F,a,b,h=>λ g hg=>Kr (by
      unfold look
      have:Nat.beq e.d d=false:=by rw [Bool.eq_false_iff]; intro hh; exact b e b3 (Nat.eq_of_beq_eq_true hh).symm
      rw [this]; exact a) (λ x hx=>b x (.tail _ hx)) (h g hg)
theorem Ep {B:List HP->List Nat->List (Nat × Value)->Prop} {d:Nat} {lc:List Nat} (hB:Sm ops B):Sm ops (λ L' l F=>B L' l F/\kg ops.size l=kg ops.size lc/\look F d=none):=λ L1 L2 l1 a b f hp hl hF h=>
  ⟨hB _ _ _ _ _ _ hp hl hF h.1,hl.symm.trans h.2.1,(hF d).symm.trans h.2.2⟩
def B2 (ops:Array Oper) (B:List HP->List Nat->List (Nat × Value)->Prop) (i d:Nat) (u:Value) (R:List HP) (L':List HP) (l:List Nat) (F:List (Nat × Value)):Prop:=
  ∃ L1 l1 a,B L1 l1 a/\L'.Perm (R++L1)/\kg ops.size l=kg ops.size (i::l1)/\∀ t,look F t=look ((d,u)::a) t
theorem B2.same {B:List HP->List Nat->List (Nat × Value)->Prop} {i d:Nat} {u:Value} {R:List HP}:Sm ops (B2 ops B i d u R):=λ L1 L2 l1 k l o hp hl hF ⟨a,b,c,h,f,g,j⟩=>
  ⟨a,b,c,h,hp.symm.trans f,hl.symm.trans g,λ t=>(hF t).symm.trans (j t)⟩
theorem Kh {B:List HP->List Nat->List (Nat × Value)->Prop} {i d:Nat} {u:Value} {R:List HP}:∀ {es:List Eff} {L1 L':List HP} {l1 l:List Nat} {a F:List (Nat × Value)},(∀ e ∈ es,e.i≠i/\e.d≠d)->L'.Perm (R++L1)->kg ops.size l=kg ops.size (i::l1)->(∀ t,look F t=look ((d,u)::a) t)->Cn B es L1 l1 a->Cn (B2 ops B i d u R) es L' l F
  | [],L1,L',l1,l,a,F,hd,hp,hl,hF,h=>⟨L1,l1,a,h,hp,hl,hF⟩
  | e::es,L1,L',l1,l,a,F,hd,hp,hl,hF,h=>λ g hg=>Kh (λ x hx=>hd x (.tail _ hx)) ((hp.append_left _).trans (AB _ _ _)) ((oo hl _).trans (xD (hd e b3).1)) (λ t=>(um hF _ _ t).trans (wD _ _ (hd e b3).2 t)) (h g hg)
theorem F3 {fuel im dm:Nat} {op:Op} {ty:TypeId} {pos:String} {aft:Array Edge} {e:Eff} {lc:List Nat} (hg:∀ w' L',Own w0 D w' (sepL L'::L)->Good w') (hi:ops[im]? =some ⟨some dm,op,ty,pos,aft,none⟩) (he:Dk P ops n w0 D L G e) (hdm:dm≠e.d) (hie:im≠e.i) (hgd:look G dm=none)
    (j:uH ops ks im lc dm n=true) (k:dx ops e.i (im::lc)=true) (o:uH ops ks im (e.i::lc) dm n=true):
    ∀ (m:Nat) (es:List Eff),es.length=m->∀ (L':List HP) (l:List Nat) (F:List (Nat × Value)) (w:World),(∀ t v,look G t=some v->look F t=some v)->(∀ e ∈ es,Dk P ops n w0 D L G e)->(∀ x ∈ es,x.i≠e.i/\x.d≠e.d)->Ds es->CE ops e.i m (es.map Eff.i) l=true->Own w0 D w (sepL L'::L)->Cn (λ L' l F=>BM P ops Q ks Good n w0 D L fuel im dm op ty e L' l F/\kg ops.size l=kg ops.size lc/\look F e.d=none) es L' l F->GX P ops Q ks Good (fuel+2+m) l n F w
  | 0,es,hm,L',l,F,w,hs,hE,hx,hd,hk,H,h=>by
    rw [List.length_eq_zero_iff] at hm; subst hm
    obtain⟨⟨vm,hy,h⟩,hl,hF⟩:=h
    obtain⟨a,hbl,hfr,hdo⟩:=he
    refine GX.same (l1:=lc) hl.symm (λ _=>rfl) (qt im hi (λ W _=>hy W) (GX.do e.i a (by rw [k,hbl]; rfl) (((hdo w L' H).frame (tK hs hgd _)).mono ?_)) j)
    rintro _ w' ⟨g,rfl,hp,H'⟩
    have f:=yx H'
    exact⟨.inr (hg _ _ f),(h g hp w' f).same (oo (oo hl _) _) (λ _=>rfl)⟩
  | m+1,es,hm,L',l,F,w,hs,hE,hx,hd,hk,H,h=>by
    have hne:(es.map Eff.i).isEmpty=false:=by
      cases es with
      | nil=>cases hm
      | cons _ _=>rfl
    unfold CE at hk
    simp only [hne,Bool.false_or,Bool.and_eq_true,Bool.not_eq_true'] at hk
    refine λ hQ hns=>GW.any rfl hk.1.1.2 λ q hq=> ?_
    have p:=List.all_eq_true.1 hk.1.1.1 q hq
    rw [qO,List.mem_cons] at p
    by_cases hqe:q=e.i
    . subst hqe
      have B:=he
      obtain⟨a,hbl,hfr,hdo⟩:=B
      refine GO.do a hbl rfl (((hdo w L' H).frame hs).mono ?_)
      rintro _ w' ⟨g,rfl,hp,H'⟩
      have f:=yx H'
      refine⟨.inr (hg _ _ f), ?_⟩
      have hc:=Kh (ops:=ops) (i:=e.i) (d:=e.d) (u:=e.v g) (R:=e.R g) hx (List.Perm.refl _) rfl (λ _=>rfl) h
      have hK:∀ (L2:List HP) (C:List Nat) (z:List (Nat × Value)) (r:World),(∀ t v,look G t=some v->look z t=some v)->Own w0 D r (sepL L2::L)->B2 ops (λ L' l F=>BM P ops Q ks Good n w0 D L fuel im dm op ty e L' l F/\kg ops.size l=kg ops.size lc/\look F e.d=none) e.i e.d (e.v g) (e.R g) L2 C z->GX P ops Q ks Good (fuel+1) C n z r:=by
        rintro L2 C z r O S ⟨L1,l1,Y,⟨⟨vm,hy,U⟩,s,E⟩,I,J,K⟩
        refine GX.same (l1:=e.i::lc) ((oo s.symm _).trans J.symm) (λ t=>(K t).symm) (qt im hi (λ W _=>(hy W).frame (tK (λ _ _ h=>h) E _)) ?_ o)
        have V:Own w0 D r (sepL (e.R g++L1)::L):=((S.flat).perm (I.append_right _)).pack
        exact(U g hp r V).same (((oo (oo s _) _)).trans (xD hie.symm)) (wD _ _ hdm.symm)
      have N:=FZ (P:=P) (Q:=Q) (ks:=ks) (Good:=Good) (n:=n) (w0:=w0) (D:=D) (L:=L) (G:=G) B2.same hg (fuel:=fuel+1) hK (m+1) es hm _ (e.i::l) _ w' (tK hs hfr (e.v g)) hE hd hk.2 f hc
      have X:fuel+1+(m+1)=fuel+2+m:=by omega
      rw [X] at N
      exact N hQ hns
    . obtain⟨us,x,bs,rfl,rfl⟩:=AC (qO.2 (p.resolve_left hqe))
      have b:=Ds.mid hd
      have hke:=List.all_eq_true.1 hk.1.2 x.i (List.mem_map.2 ⟨x,List.mem_append_right _ b3,rfl⟩)
      rw [Dl b.1] at hke
      have hin:∀ y ∈ us++bs,y ∈ us++x::bs:=λ y hy=>by
        rcases List.mem_append.1 hy with M | M
        . exact List.mem_append_left _ M
        . exact List.mem_append_right _ (.tail _ M)
      obtain⟨a,hbl,hfr,hdo⟩:=hE x (List.mem_append_right _ b3)
      have hc:=JQ (Ep BM.same) us L' l F b.1 h
      refine GO.do a hbl rfl (((hdo w L' H).frame hs).mono ?_)
      rintro _ w' ⟨g,rfl,hp,H'⟩
      have f:=yx H'
      refine⟨.inr (hg _ _ f),F3 hg hi he hdm hie hgd j k o m (us++bs) ?_ _ (x.i::l) _ w' (tK hs hfr _) (λ y hy=>hE y (hin y hy)) (λ y hy=>hx y (hin y hy)) b.2 hke f (hc g hp) hQ hns⟩
      simp only [List.length_append,List.length_cons] at hm ⊢; omega
theorem Gr {A B:List HP} {l:List Nat} {F:List (Nat × Value)} {w:World} {fuel dm:Nat} {op:Op} {ty:TypeId} {pos:String} {aft:Array Edge} (a e:Eff) (im k:Nat) (H:Own w0 D w L) (hE:xE P ops n w0 D L F (e:: [a])) (hi:ops[im]? =some ⟨some dm,op,ty,pos,aft,none⟩)
    (h:Cn (BM P ops Q ks (λ W=> ∃ L',Own w0 D W (A++L')) n w0 D L fuel im dm op ty e) [a] [] l F) (hdm:look F dm=none:=by exact rfl) (hA:Cc k L=some (A,B):=by exact rfl) (b:wE (im::e.i::List.map Eff.i [a])=true:=by exact rfl) (f:wE (dm::e.d::List.map Eff.d [a])=true:=by exact rfl)
    (hk:(CE ops e.i 1 (List.map Eff.i [a]) l && uH ops ks im (Dp [a] l) dm n && dx ops e.i (im::Dp [a] l) && uH ops ks im (e.i::Dp [a] l) dm n)=true:=by kernel_rfl):GX P ops Q ks (λ W=> ∃ L',Own w0 D W (A++L')) (fuel+3) l n F w:=by
  have he:=xE.all hE e b3
  have hd:=EQ (es:=e:: [a]) (Dm b) (Dm f)
  have hx:∀ x ∈ [a],x.i≠e.i/\x.d≠e.d:=λ x hx=>⟨λ h=>(hd.1 x hx).1 h.symm,λ h=>(hd.1 x hx).2 h.symm⟩
  simp only [Bool.and_eq_true] at hk
  have j:im≠e.i:=λ h=>by subst h; simp [wE,mb] at b
  have o:dm≠e.d:=λ h=>by subst h; simp [wE,mb] at f
  exact F3 (λ w' L' H=>⟨B++ [sepL L'],by
    have g:=H.perm (List.perm_append_comm (l₁:= [sepL L']) (l₂:=L))
    rw [Ay k L A B hA,List.append_assoc] at g; exact g⟩) hi he o j hdm hk.1.1.2 hk.1.2 hk.2 1 [a] rfl [] l F w (λ _ _ h=>h) (λ x hx=>xE.all hE x (.tail _ hx)) hx hd.2 hk.1.1.1 H.sepNil (Kr he.2.2.1 (λ x hx'=>Ne.symm (hx x hx').2) h)
end
end
section
open Go.RowKit
section
variable {P:Program} {n:Nat} {F:List (Nat × Value)} {w:World} {ty T e sz bytes m c:Nat} {A:Option Addr} {x:Operand}
theorem Er (el:Elem P T e sz bytes) {i j q:Nat} {k k' k2:IntKind} (a:i<=j) (b:j<=q) (d:q<=c):(Instr.slice T (.slice A m c) (some (.int k (i:Int))) (some (.int k' (j:Int))) (some (.int k2 (q:Int)))).run P w= .ok (.slice (eO A i sz q) (j - i) (q - i)) w:=by
  obtain⟨i',_,ht,hi,_,rfl,_⟩:=el
  have ht':P.underlying T=some (.slice (P.elem T)):=by rw [oH ht]; exact ht
  rw [run_slice_any w T A m c ht']
  simp [Instr.sliceBounds,Instr.sliceBound,asIntOf,a,b,d,Result.andThen,sizeOf,typeInfo,oH ht,hi,sliced,eO]
theorem JB {lx hx' mx:Operand} {i j q:Nat} {k k' k2:IntKind} (el:Elem P T e sz bytes) (hx:ev F x=some (.slice A m c)) (hl:ev F lx=some (.int k (i:Int))) (hh:ev F hx'=some (.int k' (j:Int))) (hm:ev F mx=some (.int k2 (q:Int))) (a:i<=j) (b:j<=q) (d:q<=c):
    Yl P n F w (.slice T x (some lx) (some hx') (some mx)) ty (.slice (eO A i sz q) (j - i) (q - i)):=
  JY (lo:=some lx) (hi:=some hx') (mx:=some mx) (lo':=some (.int k (i:Int))) (hi':=some (.int k' (j:Int))) (mx':=some (.int k2 (q:Int))) el hx (by simp [hl]) (by simp [hh]) (by simp [hm]) (Er el a b d)
end
end
end Go.Proofs.YtndamapfnpihpaaGreat
