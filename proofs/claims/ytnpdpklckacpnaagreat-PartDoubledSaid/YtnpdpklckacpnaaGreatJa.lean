/- The layers told, part 1. Conditions: none beyond each law's own. -/
import Derived.Lib.Hide
import Derived.KernelRfl
import Derived.WalkKit
import Derived.Test.YtnpdpklckacpnaaGreatRows
import Derived.WalkLawsBesides
import Derived.WalkSpells
import Derived.Scope
import Derived.OrdersHeld
import Derived.IntWalk
import Derived.Deep.AppendSrc
import Derived.Deep.Draws
import Derived.Laws.IdiomStrings
import Derived.Laws.MakeOwn
import Derived.Sort.Walk0
import Derived.Deep.Slices
import Derived.ChangeArms
import Derived.ChangeSame
import Derived.WideShapes
import Derived.SizedLaws
import Derived.Laws.StructEq
import Derived.Deep.DeepAppendWide
import Derived.Lib.Bytealg
import Derived.Lib.Overlaps
import Derived.Lib.AppendZerosOnto
import Derived.Lib.MinMaxS
import Derived.MapKept
namespace Go
theorem zj {α:Sort _}{a b c:α}(h:a=b)(g:a=c):b=c:=h.symm.trans g
end Go
namespace Go.Proofs.YtnpdpklckacpnaaGreat
set_option maxRecDepth 100000
set_option linter.unusedVariables false
set_option linter.unusedSimpArgs false
set_option linter.unusedSectionVars false
end Go.Proofs.YtnpdpklckacpnaaGreat
namespace Go
set_option maxRecDepth 100000
set_option linter.unusedVariables false
set_option linter.unusedSimpArgs false
set_option linter.unusedSectionVars false
theorem Z {α:Sort _}{a:α}:a=a:=rfl
theorem ZX {α:Sort _}{β:Sort _}{a b:α}(f:α -> β)(h:a=b):f a=f b:=congrArg f h
theorem ZJ {c:Prop}{h:Decidable c}(hc:c){α:Sort _}{t e:α}:ite c t e=t:=if_pos hc
theorem ZK {c:Prop}{h:Decidable c}(hc:¬c){α:Sort _}{t e:α}:ite c t e=e:=if_neg hc
theorem ZV:True:=trivial
theorem ZW {p:Prop}[Decidable p][Decidable ¬p]:(!decide p)=decide (¬p):=decide_not.symm
abbrev Za (p:Prop)[Decidable p]:Value:=.bool (decide p)
theorem ZY {α:Sort _}{p:α -> Prop}(h:∀ a,p a:=by intro _;kernel_rfl):∀ a,p a:=h
theorem qq {α:Sort _}(x:α):∃ q,x=q:=⟨_,rfl⟩
end Go
namespace Go.Proofs.YtnpdpklckacpnaaGreat
set_option maxRecDepth 100000
set_option linter.unusedVariables false
set_option linter.unusedSimpArgs false
set_option linter.unusedSectionVars false
open _root_.Go renaming World->ZZ,Value->ZQ
open Value renaming bool->Y,slice->T,string->Z9,pointer->Zz,agg->Zq,nilFunc->Zx
open Bool renaming true->Zj,false->O
open Option renaming none->Zk,some->Zv
open Decidable renaming decide->Zw
open Inhabited renaming default->Zy
open List renaming length->X,toArray->Zb,drop->Ze,take->Zf,flatMap->Zg,map->Zh
open Int renaming toNat->Zc
open Bool renaming toNat->Zd
abbrev Nr:=@Nat.le_of_ble_eq_true
abbrev Ns:=@IntWalk.i64_in
abbrev Nt:=@Nat.zero_le
abbrev Nu:=@not_not_intro
abbrev Nv:=@Bool.eq_false_or_eq_true
open Nat renaming beq->j8,beq_refl->l3,eq_of_beq_eq_true->l4,le_of_ble_eq_true->j9
section
open Go.RowKit
def look:List (Nat × ZQ)->Nat->Option ZQ
  | [],_=>Zk
  | (k,v)::r,t=>bif j8 k t then Zv v else look r t
def ev (F:List (Nat × ZQ)):Operand->Option ZQ
  | .tmp t=>look F t
  | .const v=>Zv v
  | .global g=>Zv (Zz (Zv ⟨g,0,Zk⟩))
  | .func f=>Zv (.func (.func f) #[] #[])
def wS (F:List (Nat × ZQ)):List Operand->Option (List ZQ)
  | []=>Zv []
  | x::r=>match ev F x,wS F r with
    | some v,some vs=>Zv (v::vs)
    | _,_=>Zk
structure Ag0 (n:Nat) (F:List (Nat × Value)) (a:Act):Prop where q::
  size:a.tmps.size=n
  at_:∀ t v,look F t=Zv v->a.tmps[t]? =Zv v
structure Ag (n:Nat) (F:List (Nat × Value)) (a:Act):Prop extends Ag0 n F a where q::
  defers:a.defers= []
section
variable {n:Nat} {F G:List (Nat × ZQ)} {a:Act}
theorem Ag0.getD (h:Ag0 n F a) {t:Nat} {v d:ZQ} (hv:look F t=Zv v):a.tmps.getD t d=v:=by
  simp [h.at_ t v hv]
theorem Ag0.eval (h:Ag0 n F a) {x:Operand} {v:ZQ} (hx:ev F x=Zv v):a.eval x=v:=by
  cases x with
  | tmp t=>exact h.getD hx
  | const c=>exact Option.some.inj hx
  | global g=>exact Option.some.inj hx
  | func f=>exact Option.some.inj hx
theorem Ag0.evals (h:Ag0 n F a):∀ {xs:List Operand} {vs:List ZQ},wS F xs=Zv vs->xs.map a.eval=vs
  | [],vs,hx=>by simp [wS] at hx; subst hx; rfl
  | x::r,vs,hx=>by
    unfold wS at hx
    split at hx
    . rename_i v vs' b c
      simp only [Option.some.injEq] at hx
      subst hx
      rw [List.map_cons,h.eval b,h.evals c]
    . cases hx
theorem Ag0.put (h:Ag0 n F a) {d:Nat} {v:ZQ} (hd:Nat.blt d n=Zj):Ag0 n ((d,v)::F) (a.put (Zv d) v):=by
  have hd':d < n:=j9 hd
  refine⟨by simp [Act.put,h.size],λ t u hu=> ?_⟩
  unfold look at hu
  by_cases e:d=t
  . subst e
    simp only [l3,cond_true,Option.some.injEq] at hu
    subst hu
    simp [Act.put,h.size,hd']
  . have:j8 d t=O:=by
      rw [Bool.eq_false_iff]; intro hh; exact e (l4 hh)
    rw [this,cond_false] at hu
    simp only [Act.put,Array.getElem?_setIfInBounds_ne e]
    exact h.at_ t u hu
theorem Ag.put (h:Ag n F a) {d:Nat} {v:ZQ} (hd:Nat.blt d n=Zj):Ag n ((d,v)::F) (a.put (Zv d) v):=⟨h.toAg0.put hd,h.defers⟩
theorem Ag.put0 (h:Ag n F a) (v:ZQ):Ag n F (a.put Zk v):=h
def yE:List (Nat × ZQ)->List (Nat × ZQ)->Prop
  | [],_=>True
  | (t,v)::r,F=>look F t=Zv v/\yE r F
theorem yE.look:∀ {G:List (Nat × ZQ)},yE G F->∀ t v,look G t=Zv v->look F t=Zv v
  | [],_,t,v,h=>by simp [Go.Proofs.YtnpdpklckacpnaaGreat.look] at h
  | (k,u)::r,hs,t,v,h=>by
    unfold Go.Proofs.YtnpdpklckacpnaaGreat.look at h
    by_cases e:k=t
    . subst e
      simp only [l3,cond_true,Option.some.injEq] at h
      subst h
      exact hs.1
    . have:j8 k t=O:=by
        rw [Bool.eq_false_iff]; intro hh; exact e (l4 hh)
      rw [this,cond_false] at h
      exact yE.look hs.2 t v h
theorem Ag0.sub (h:Ag0 n F a) (hs:yE G F):Ag0 n G a:=⟨h.size,λ t v hv=>h.at_ t v (hs.look t v hv)⟩
theorem Ag.sub (h:Ag n F a) (hs:yE G F):Ag n G a:=⟨h.toAg0.sub hs,h.defers⟩
end
def Wp (P:Program) (c:Code) (n:Nat) (F:List (Nat × ZQ)) (w:ZZ) (Q:Exit->Act->ZZ->Prop):Prop:=∀ a,Ag n F a->c.wp P Q a w
def Fin (Q:Exit->Act->ZZ->Prop) (e:Exit) (n:Nat) (F:List (Nat × ZQ)) (w:ZZ):Prop:=∀ a,Ag n F a->Q e a w
def WL (P:Program) (ops:Array Oper) (Q:Exit->Act->ZZ->Prop) (rest:List Oper) (n:Nat) (F:List (Nat × ZQ)) (w:ZZ):Prop:=∀ a,Ag n F a->wpList P ops Q rest a w
section
variable {P:Program} {n:Nat} {F:List (Nat × ZQ)} {w:ZZ} {Q:Exit->Act->ZZ->Prop} {K:Act->ZZ->Prop}
theorem JS {x y:Code} (h:Wp P x n F w (Exit.then (λ a w=>y.wp P Q a w) Q)):Wp P (.seq x y) n F w Q:=λ a ha=>wp_seq (h a ha)
theorem Ko (h:Fin Q .normal n F w):Wp P .skip n F w Q:=λ a ha=>wp_skip (h a ha)
theorem Wp.exit {i:Nat} (h:Fin Q (.exit i) n F w):Wp P (.exit i) n F w Q:=λ a ha=>wp_exit (h a ha)
theorem Wp.ret (h:Fin Q .ret n F w):Wp P .ret n F w Q:=λ a ha=>wp_ret (h a ha)
theorem Wp.block {i:Nat} {c:Code} (h:Wp P c n F w (Exit.inBlock i Q)):Wp P (.block i c) n F w Q:=λ a ha=>wp_block (h a ha)
theorem Ml {c:Operand} {x y:Code} {b:Bool} (hc:ev F c=Zv (Y b)) (ht:b=Zj->Wp P x n F w Q) (hf:b=O->Wp P y n F w Q):Wp P (.cond c x y) n F w Q:=
  λ a ha=>wp_cond_split (ha.eval hc) (λ h=>ht h a ha) (λ h=>hf h a ha)
theorem L8 {c:Operand} {x y:Code} {b:Bool} (hc:ev F c=Zv (Y b)) (hb:b=Zj) (ht:Wp P x n F w Q):Wp P (.cond c x y) n F w Q:=
  Ml hc (λ _=>ht) (λ h=>by rw [hb] at h; cases h)
theorem L9 {c:Operand} {x y:Code} {b:Bool} (hc:ev F c=Zv (Y b)) (hb:b=O) (hf:Wp P y n F w Q):Wp P (.cond c x y) n F w Q:=
  Ml hc (λ h=>by rw [hb] at h; cases h) (λ _=>hf)
theorem JW {i:Nat} {l:List Oper} (h:WL P l.toArray Q l n F w):Wp P (.region i l.toArray O) n F w Q:=λ a ha=>wp_region_lit (h a ha)
theorem JY {y:Code} (h:Wp P y n F w Q):Fin (Exit.then (λ a w=>y.wp P Q a w) Q) .normal n F w:=h
theorem Ka {i:Nat} (h:Fin Q (.exit i) n F w):Fin (Exit.then K Q) (.exit i) n F w:=h
theorem Kh {i:Nat} (h:Fin Q .normal n F w):Fin (Exit.inBlock i Q) (.exit i) n F w:=λ a ha=>by
  simp only [Exit.inBlock,if_true]; exact h a ha
theorem Mq {i j:Nat} (hne:j8 j i=O) (h:Fin Q (.exit j) n F w):Fin (Exit.inBlock i Q) (.exit j) n F w:=λ a ha=>by
  have:j≠i:=λ e=>by subst e; rw [l3] at hne; cases hne
  simp only [Exit.inBlock,ZK this]; exact h a ha
theorem WL.nil {ops:Array Oper} (h:Fin Q .normal n F w):WL P ops Q [] n F w:=λ a ha=>wpList_nil (h a ha)
theorem Wp.loop {c:Code} {ι:Type} (Fh:ι->List (Nat × ZQ)) (S:ι->ZZ->Prop) (μ:ι->Nat) (g:ι) (j:yE (Fh g) F) (hS:S g w)
    (round:∀ i w,S i w->Wp P c n (Fh i) w (Exit.then (λ a' w'=> ∃ i',Ag n (Fh i') a'/\S i' w'/\μ i' < μ i) Q)):Wp P (.loop c) n F w Q:=by
  intro a ha b k cs
  have key:∀ m i a w,μ i=m->Ag n (Fh i) a->S i w->∃ e a' w',Q e a' w'/\Arrives P (lone (b.at a (.code c:: .inLoop c::k)) cs w) b k cs e a' w':=by
    intro m
    induction m using Nat.strongRecOn with
    | _ m ih=>
      intro i a w hm ha hs
      obtain⟨e,d,f,hq,harr⟩:=round i w hs a ha b (.inLoop c::k) cs
      cases e with
      | normal=>
        obtain⟨i',ha',hs',hlt⟩:=hq
        obtain⟨o,p,q,h,harr2⟩:=ih (μ i') (hm ▸ hlt) i' d f Z ha' hs'
        exact⟨o,p,q,h, .of_steps (Steps.trans harr (.one step_inLoop)) harr2⟩
      | exit id=>exact⟨_,d,f,hq, .pass (x:= .inLoop c) Z (λ _ _=> .inl (by simp)) harr⟩
      | goto l=>exact⟨_,d,f,hq, .pass (x:= .inLoop c) Z (λ _ _=> .inl (by simp)) harr⟩
      | ret=>exact⟨_,d,f,hq, .pass (x:= .inLoop c) Z (λ _ _=> .inl (by simp)) harr⟩
      | panic ch=>exact⟨_,d,f,hq, .pass (x:= .inLoop c) Z (λ _ _=> .inl (by simp)) harr⟩
      | outgrown=>exact⟨_,d,f,hq, .pass (x:= .inLoop c) Z (λ _ _=> .inl (by simp)) harr⟩
  obtain⟨e,a',w',hq,harr⟩:=key _ g a w Z (ha.sub j) hS
  exact⟨e,a',w',hq, .of_steps (.one step_loop) harr⟩
theorem Kb {ι:Type} {Fh:ι->List (Nat × ZQ)} {S:ι->ZZ->Prop} {μ:ι->Nat} {m:Nat} (i':ι) (hs:yE (Fh i') F) (hS:S i' w) (hm:μ i' < m):
    Fin (Exit.then (λ a' w'=> ∃ i',Ag n (Fh i') a'/\S i' w'/\μ i' < m) Q) .normal n F w:=λ a ha=>⟨i',ha.sub hs,hS,hm⟩
theorem K5 {x y:Code} {ι:Type} (Fj:ι->List (Nat × ZQ)) (S:ι->ZZ->Prop) (b:Wp P x n F w (Exit.then (λ a' w'=> ∃ i,Ag n (Fj i) a'/\S i w') Q))
    (c:∀ i w',S i w'->Wp P y n (Fj i) w' Q):Wp P x n F w (Exit.then (λ a w=>y.wp P Q a w) Q):=λ a ha=>
  wp_mono (b a ha) λ e a' w' h=>by
    cases e with
    | normal=>obtain⟨i,ha',hs⟩:=h; exact c i w' hs a' ha'
    | _=>exact h
theorem KM {ι:Type} {Fj:ι->List (Nat × ZQ)} {S:ι->ZZ->Prop} (i:ι) (hs:yE (Fj i) F) (hS:S i w):
    Fin (Exit.then (λ a' w'=> ∃ i,Ag n (Fj i) a'/\S i w') Q) .normal n F w:=λ a ha=>⟨i,ha.sub hs,hS⟩
def Dq:Nat->List ZQ->List (Nat × ZQ)
  | _, []=> []
  | k,v::r=>(k,v)::Dq (k+1) r
theorem BJ:∀ (vs:List ZQ) (k t:Nat) (v:ZQ),look (Dq k vs) t=Zv v->k<=t/\vs[t - k]? =Zv v
  | [],_,_,_,h=>by cases h
  | u::r,k,t,v,h=>by
    unfold Dq look at h
    by_cases e:k=t
    . subst e
      simp only [l3,cond_true,Option.some.injEq] at h
      subst h
      simp
    . have:j8 k t=O:=by
        rw [Bool.eq_false_iff]; intro hh; exact e (l4 hh)
      rw [this,cond_false] at h
      obtain⟨c,b⟩:=BJ r (k+1) t v h
      refine⟨by omega, ?_⟩
      rw [show t - k=(t - (k+1))+1 by omega,List.getElem?_cons_succ]
      exact b
theorem Mr {f:FuncId} {fn:Func} {c:Code} {args:List ZQ} {R:Ending->ZZ->Prop} (hf:P.funcs[f]? =Zv fn) (hb:fn.body=Zv c) (hn:fn.ntmps=n) (hl:Nat.ble (X args) n=Zj)
    (h:Wp P c n (Dq 0 args) w (bodyPost P fn R)):Calls P f args.toArray w R:=by
  refine calls_of_wp hf hb (h _ ⟨⟨?_,λ t v hv=> ?_⟩,Z⟩)
  . have:X args<=n:=j9 hl
    simp only [Array.size_append,List.size_toArray,Array.size_replicate,hn]; omega
  . obtain⟨_,b⟩:=BJ _ _ _ _ hv
    rw [Nat.sub_zero] at b
    simp only
    rw [Array.getElem?_append_left (by simpa using ((List.getElem?_eq_some_iff.1 b).1))]
    simpa using b
def dI (R:ZQ->ZZ->Prop):Ending->ZZ->Prop:=λ e w=> ∃ v,e= .returned v/\R v w
theorem dI.mono {R R':ZQ->ZZ->Prop} {f:FuncId} {args:Array ZQ} (h:Calls P f args w (dI R)) (k:∀ v w',R v w'->R' v w'):Calls P f args w (dI R'):=
  h.mono λ _ _ ⟨v,e,r⟩=>⟨v,e,k _ _ r⟩
theorem Ke {fn:Func} {R:ZQ->ZZ->Prop} {v:ZQ} (hr:∀ a,Ag0 n F a->(results fn a.tmps).run P w= .ok v w) (h:R v w):Fin (bodyPost P fn (dI R)) .ret n F w:=
  λ a ha=>⟨ha.defers,v,hr a ha.toAg0,v,Z,h⟩
theorem KD {fn:Func} {R:ZQ->ZZ->Prop} {v:ZQ} (hr:∀ a,Ag0 n F a->(results fn a.tmps).run P w= .ok v w) (h:R v w):Fin (bodyPost P fn (dI R)) .normal n F w:=
  λ a ha=>⟨ha.defers,v,hr a ha.toAg0,v,Z,h⟩
def bJ (Q:Exit->Act->ZZ->Prop):Prop:=∀ c a w, ¬ Q (.panic c) a w
theorem Kg {fn:Func} {R:ZQ->ZZ->Prop}:bJ (bodyPost P fn (dI R)):=λ _ _ _ ⟨_,_,h,_⟩=>by cases h
theorem J6 (h:bJ Q):bJ (Exit.then K Q):=h
theorem bJ.block {i:Nat} (h:bJ Q):bJ (Exit.inBlock i Q):=h
theorem Jy {fn:Func} {t:Tmp} {v:ZQ} (h:fn.results= #[.tmp t]) (hv:look F t=Zv v):∀ a,Ag0 n F a->(results fn a.tmps).run P w= .ok v w:=
  λ a ha=>by rw [results_tmp h,ha.getD hv]
theorem lw {fn:Func} {t u:Tmp} {v v':ZQ} (h:fn.results= #[.tmp t, .tmp u]) (hv:look F t=Zv v) (hv':look F u=Zv v'):∀ a,Ag0 n F a->(results fn a.tmps).run P w= .ok (.tuple #[v,v']) w:=
  λ a ha=>by rw [results_tmp2 h,ha.getD hv,ha.getD hv']
theorem yN {fn:Func} {t u s:Tmp} {v v' c:ZQ} (h:fn.results= #[.tmp t, .tmp u, .tmp s]) (hv:look F t=Zv v) (hv':look F u=Zv v') (b:look F s=Zv c):∀ a,Ag0 n F a->(results fn a.tmps).run P w= .ok (.tuple #[v,v',c]) w:=
  λ a ha=>by simp [results,h,ha.at_ _ _ hv,ha.at_ _ _ hv',ha.at_ _ _ b]
theorem xh {fn:Func} {t u s r:Tmp} {v v' d e:ZQ} (h:fn.results= #[.tmp t, .tmp u, .tmp s, .tmp r]) (hv:look F t=Zv v) (hv':look F u=Zv v') (b:look F s=Zv d) (c:look F r=Zv e):∀ a,Ag0 n F a->(results fn a.tmps).run P w= .ok (.tuple #[v,v',d,e]) w:=
  λ a ha=>by simp [results,h,ha.at_ _ _ hv,ha.at_ _ _ hv',ha.at_ _ _ b,ha.at_ _ _ c]
theorem res0 {fn:Func} (h:fn.results= #[]):∀ a,Ag0 n F a->(results fn a.tmps).run P w= .ok (.tuple #[]) w:=λ a _=>results_none h a.tmps P w
def bO (P:Program) (w:ZZ) (t:TypeId) (p:Addr) (v:ZQ):Prop:=(loadVar t p).run P w= .ok v w
inductive bS (P:Program) (F:List (Nat × Value)) (w:World):List ResultVar->List Value->Prop
  | nil:bS P F w [] []
  | tmp {t:Tmp} {v:ZQ} {rs:List ResultVar} {vs:List ZQ} (h:look F t=Zv v) (r:bS P F w rs vs):bS P F w (.tmp t::rs) (v::vs)
  | cell {t:Tmp} {Z7:TypeId} {p:Addr} {v:ZQ} {rs:List ResultVar} {vs:List ZQ} (h:look F t=Zv (Zz (Zv p))) (hl:bO P w Z7 p v) (r:bS P F w rs vs):bS P F w (.cell t Z7::rs) (v::vs)
def Ac (tmps:Array ZQ):ResultVar->Sem ZQ
  | .tmp t=>pure (tmps.getD t undef)
  | .cell a t=>do loadVar t (<- asAddr (tmps.getD a undef))
theorem bS.run {a:Act} (ha:Ag0 n F a):∀ {rs:List ResultVar} {vs:List ZQ},bS P F w rs vs->Sem.run P (rs.mapM (Ac a.tmps)) w=Result.ok vs w
  | _,_, .nil=>rfl
  | _,_, .tmp h r=>by
    rw [List.mapM_cons]
    simp only [Ac,Sem.run_bind,Sem.run_pure,Result.andThen_ok,bS.run ha r,ha.getD h]
  | _,_, .cell h hl r=>by
    rw [List.mapM_cons]
    simp only [Ac,ha.getD h,asAddr,Sem.run_bind,Sem.run_pure,Result.andThen_ok]
    rw [hl]
    simp only [Result.andThen_ok,bS.run ha r]
theorem fQ {fn:Func} {rs:List ResultVar} {vs:List ZQ} (h:fn.results=rs.toArray) (hv:bS P F w rs vs) (hn:2<=X vs):∀ a,Ag0 n F a->(results fn a.tmps).run P w= .ok (.tuple vs.toArray) w:=λ a ha=>by
  have e:results fn a.tmps=(do
      let xs <- fn.results.mapM (Ac a.tmps)
      pure (if h:xs.size=1 then xs[0] else .tuple xs)):=Z
  rw [e,h,List.mapM_toArray]
  simp only [Functor.map,Sem.run_bind,Sem.run_pure,Result.andThen_ok,hv.run ha]
  have hb:Sem.run P ((rs.mapM (Ac a.tmps)).bind (Sem.pure ∘ List.toArray)) w= .ok vs.toArray w:=by
    show Sem.run P (rs.mapM (Ac a.tmps) >>=λ x=>(pure x.toArray:Sem (Array ZQ))) w=_
    rw [Sem.run_bind,hv.run ha]; rfl
  rw [hb]
  simp only [Result.andThen_ok]
  rw [dif_neg (by simp; omega)]
theorem qg {fn:Func} {t:Tmp} {Z7:TypeId} {p:Addr} {v:ZQ} (h:fn.results= #[.cell t Z7]) (hp:look F t=Zv (Zz (Zv p))) (hl:bO P w Z7 p v):∀ a,Ag0 n F a->(results fn a.tmps).run P w= .ok v w:=λ a ha=>by
  simp [results,h,ha.at_ _ _ hp,asAddr]
  unfold bO at hl
  simp [hl,Result.andThen]
end
theorem b3 {α:Type _}{a0:α}{l:List α}:a0∈a0::l:=.head _
theorem b4 {α:Type _}{a0 a1:α}{l:List α}:a1∈a0::a1::l:=.tail _ (.head _)
theorem b5 {α:Type _}{a0 a1 a2:α}{l:List α}:a2∈a0::a1::a2::l:=.tail _ (.tail _ (.head _))
theorem b6 {α:Type _}{a0 a1 a2 a3:α}{l:List α}:a3∈a0::a1::a2::a3::l:=.tail _ (.tail _ (.tail _ (.head _)))
theorem b7 {α:Type _}{a0 a1 a2 a3 a4:α}{l:List α}:a4∈a0::a1::a2::a3::a4::l:=.tail _ (.tail _ (.tail _ (.tail _ (.head _))))
theorem b8 {α:Type _}{a0 a1 a2 a3 a4 a5:α}{l:List α}:a5∈a0::a1::a2::a3::a4::a5::l:=.tail _ (.tail _ (.tail _ (.tail _ (.tail _ (.head _)))))
theorem b9 {α:Type _}{a0 a1 a2 a3 a4 a5 a6:α}{l:List α}:a6∈a0::a1::a2::a3::a4::a5::a6::l:=.tail _ (.tail _ (.tail _ (.tail _ (.tail _ (.tail _ (.head _))))))
theorem e2 {α:Type _}{a0 a1 a2 a3 a4 a5 a6 a7:α}{l:List α}:a7∈a0::a1::a2::a3::a4::a5::a6::a7::l:=.tail _ (.tail _ (.tail _ (.tail _ (.tail _ (.tail _ (.tail _ (.head _)))))))
theorem e3 {α:Type _}{a0 a1 a2 a3 a4 a5 a6 a7 a8:α}{l:List α}:a8∈a0::a1::a2::a3::a4::a5::a6::a7::a8::l:=.tail _ (.tail _ (.tail _ (.tail _ (.tail _ (.tail _ (.tail _ (.tail _ (.head _))))))))
theorem e6 {α:Type _}{a0 a1 a2 a3 a4 a5 a6 a7 a8 a9:α}{l:List α}:a9∈a0::a1::a2::a3::a4::a5::a6::a7::a8::a9::l:=.tail _ (.tail _ (.tail _ (.tail _ (.tail _ (.tail _ (.tail _ (.tail _ (.tail _ (.head _)))))))))
theorem e7 {α:Type _}{a0 a1 a2 a3 a4 a5 a6 a7 a8 a9 a10:α}{l:List α}:a10∈a0::a1::a2::a3::a4::a5::a6::a7::a8::a9::a10::l:=.tail _ (.tail _ (.tail _ (.tail _ (.tail _ (.tail _ (.tail _ (.tail _ (.tail _ (.tail _ (.head _))))))))))
theorem e8 {α:Type _}{a0 a1 a2 a3 a4 a5 a6 a7 a8 a9 a10 a11:α}{l:List α}:a11∈a0::a1::a2::a3::a4::a5::a6::a7::a8::a9::a10::a11::l:=.tail _ (.tail _ (.tail _ (.tail _ (.tail _ (.tail _ (.tail _ (.tail _ (.tail _ (.tail _ (.tail _ (.head _)))))))))))
theorem e9 {α:Type _}{a0 a1 a2 a3 a4 a5 a6 a7 a8 a9 a10 a11 a12:α}{l:List α}:a12∈a0::a1::a2::a3::a4::a5::a6::a7::a8::a9::a10::a11::a12::l:=.tail _ (.tail _ (.tail _ (.tail _ (.tail _ (.tail _ (.tail _ (.tail _ (.tail _ (.tail _ (.tail _ (.tail _ (.head _))))))))))))
theorem U {p:Prop}(h:p:=by first|omega|(dsimp only;omega)):p:=h
theorem f1 {p:Prop}(h:p:=by kernel_rfl):p:=h
theorem f2 {p:Prop}(h:p:=by first | omega | (dsimp only; omega) | (simp only [List.length_cons,List.length_nil]; omega)):p:=h
theorem f4 {p:Prop}(h:p:=by rw [Ns _ (by omega)]; omega):p:=h
theorem f5 {p:Prop}(h:p:=by first | omega | (simp; done) | (simp; omega)):p:=h
theorem f6 {p:Prop}(h:p:=by first | omega | (simp only [List.length_append,List.length_cons,List.length_nil] <;> omega)):p:=h
theorem f7 {p:Prop}(h:p:=by decide):p:=h
theorem f8 {p:Prop}(h:p:=by assumption):p:=h
theorem f9 {p:Prop}(h:p:=by first | exact⟨Nr Z,Nr Z⟩ | omega | exact⟨Nat.le_refl _,by omega⟩):p:=h
theorem g4 {p:Prop}(h:p:=by first | omega | (dsimp only; omega)):p:=h
theorem g5 {p:Prop}(h:p:=by first | omega | (dsimp only; omega) | (simp only [List.length_nil]; omega) | decide):p:=h
theorem g6 {p:Prop}(h:p:=by first | omega | (dsimp only; omega) | (simp only [List.length_nil]; omega)):p:=h
theorem g7 {p:Prop}(h:p:=by first | rfl | omega | (simp only [List.length_append,List.length_cons,List.length_nil,List.length_take,List.length_drop,List.length_set,List.length_replicate,List.length_map] <;> omega)):p:=h
theorem g8 {p:Prop}(h:p:=by first | omega | (simp only [List.length_drop,List.length_take,List.length_append,List.length_cons,List.length_nil]; omega)):p:=h
theorem i1 {p:Prop}(h:p:=by first | omega | exact Nr Z):p:=h
theorem i2 {p:Prop}(h:p:=by simp):p:=h
theorem i3 {p:Prop}(h:p:=by first | omega | exact Nt _):p:=h
theorem i4 {p:Prop}(h:p:=by first | omega | exact .inl Z):p:=h
theorem i5 {p:Prop}(h:p:=by first | omega | exact⟨Z,by omega⟩ | exact⟨Z,Nt _⟩ | exact⟨Z,Nr Z⟩ | exact⟨by omega,Nt _⟩):p:=h
theorem i6 {p:Prop}(h:p:=by first | omega | (simp only [List.length_cons,List.length_nil]; done) | (simp only [List.length_cons,List.length_nil,List.length_take,List.length_drop]; omega)):p:=h
theorem i7 {p:Prop}(h:p:=by rw [Ns _ (by omega)]):p:=h
theorem i8 {p:Prop}(h:p:=by first | omega | (simp only [List.length_append,List.length_cons,List.length_nil,List.length_take,List.length_drop,List.length_set]; omega)):p:=h
theorem i9 {p:Prop}(h:p:=by first | rfl | omega | (simp only [List.length_set] <;> omega)):p:=h
theorem j0 {p:Prop}(h:p:=by first | rfl | assumption):p:=h
theorem j1 {p:Prop}(h:p:=by first | exact Nat.le_refl _ | omega | (dsimp only; omega)):p:=h
theorem j7 {p:Prop}(h:p:=by first | omega | (dsimp only; omega) | exact Nt _):p:=h
end
open List renaming any_eq_true->m3,mem_singleton->m6
open Nat renaming blt->m2
section
open Go.RowKit
def Yl (P:Program) (n:Nat) (F:List (Nat × ZQ)) (w:ZZ) (op:Op) (ty:TypeId) (v:ZQ):Prop:=
  ∀ a,Ag0 n F a->∀ o:Oper,o.op=op->o.type=ty->(execOp a.eval o).run P w= .ok (.value v) w
def Do (P:Program) (n:Nat) (F:List (Nat × ZQ)) (w:ZZ) (op:Op) (ty:TypeId) (K:ZQ->ZZ->Prop):Prop:=
  ∀ a,Ag0 n F a->∀ o:Oper,o.op=op->o.type=ty->∀ (next:Act->ZZ->Prop) (Q:Exit->Act->ZZ->Prop),(∀ v w',K v w'->next (a.put o.dst v) w')->o.upon P a next Q ((execOp a.eval o).run P w)
section
variable {P:Program} {n:Nat} {F:List (Nat × ZQ)} {w:ZZ} {op:Op} {ty:TypeId} {v:ZQ} {K:ZQ->ZZ->Prop}
theorem Yl.do (h:Yl P n F w op ty v) (k:K v w):Do P n F w op ty K:=λ a ha o b c next Q hn=>by
  rw [h a ha o b c]; exact hn v w k
theorem Do.mono {K':ZQ->ZZ->Prop} (h:Do P n F w op ty K) (hk:∀ v w',K v w'->K' v w'):Do P n F w op ty K':=λ a ha o b c next Q hn=>
  h a ha o b c next Q λ v w' k=>hn v w' (hk v w' k)
variable {ops:Array Oper} {rest:List Oper} {Q:Exit->Act->ZZ->Prop} {pos:String} {aft:Array Edge} {d:Nat}
theorem WL.do (hd:m2 d n=Zj) (h:Do P n F w op ty λ v w'=>WL P ops Q rest n ((d,v)::F) w'):WL P ops Q (⟨Zv d,op,ty,pos,aft,Zk⟩::rest) n F w:=λ a ha=>
  wpList_plain Z λ _ hK=>h a ha.toAg0 _ Z Z _ _ λ v w' k=>hK _ _ (k _ (ha.put hd))
theorem KO (h:Do P n F w op ty λ _ w'=>WL P ops Q rest n F w'):WL P ops Q (⟨Zk,op,ty,pos,aft,Zk⟩::rest) n F w:=λ a ha=>
  wpList_plain Z λ _ hK=>h a ha.toAg0 _ Z Z _ _ λ v w' k=>hK _ _ (k _ (ha.put0 v))
theorem WL.val (hd:m2 d n=Zj) (hy:Yl P n F w op ty v) (h:WL P ops Q rest n ((d,v)::F) w):WL P ops Q (⟨Zv d,op,ty,pos,aft,Zk⟩::rest) n F w:=
  WL.do hd (hy.do h)
theorem rY {a:Act} {j t:Nat} {b:Bool} (ha:Ag0 n F a) (hj:(ops[j]?).bind (·.dst)=Zv t) (hv:look F t=Zv (Y b)):yielded ops a.tmps j=Zv b:=by
  unfold yielded
  rw [hj]
  simp [ha.at_ _ _ hv]
theorem wT {a:Act} {j t:Nat} (ha:Ag0 n F a) (hj:(ops[j]?).bind (·.dst)=Zv t) (hv:look F t=Zv undef):yielded ops a.tmps j=Zk:=by
  unfold yielded
  rw [hj]
  simp [ha.at_ _ _ hv,undef]
theorem J8 {j t:Nat} {b:Bool} (hj:(ops[j]?).bind (·.dst)=Zv t) (hv:look F t=Zv undef) (hd:m2 d n=Zj) (h:WL P ops Q rest n ((d,undef)::F) w):
    WL P ops Q (⟨Zv d,op,ty,pos,aft,Zv (j,b)⟩::rest) n F w:=λ a ha=>
  wpList_step λ _ hK=>by
    have hw:Region.wanted ⟨Zv d,op,ty,pos,aft,Zv (j,b)⟩ (yielded ops a.tmps)=O:=by simp [Region.wanted,wT ha.toAg0 hj hv]
    rw [hw,ZK f7]
    exact hK _ _ (h _ (ha.put hd))
theorem QW {j t:Nat}{b:Bool}(h:WL P ops Q rest n ((d,undef)::F) w)(hj:(ops[j]?).bind (·.dst)=Zv t:=by exact Z)(hv:look F t=Zv undef:=by exact Z)(hd:m2 d n=Zj:=by exact Z):WL P ops Q (⟨Zv d,op,ty,pos,aft,Zv (j,b)⟩::rest) n F w:=J8 hj hv hd h
theorem KU {j t:Nat} {b b':Bool} (hj:(ops[j]?).bind (·.dst)=Zv t) (hv:look F t=Zv (Y b')) (hb:b'=b) (hd:m2 d n=Zj) (h:Do P n F w op ty λ v w'=>WL P ops Q rest n ((d,v)::F) w'):
    WL P ops Q (⟨Zv d,op,ty,pos,aft,Zv (j,b)⟩::rest) n F w:=λ a ha=>
  wpList_step λ _ hK=>by
    have hw:Region.wanted ⟨Zv d,op,ty,pos,aft,Zv (j,b)⟩ (yielded ops a.tmps)=Zj:=by subst hb; simp [Region.wanted,rY ha.toAg0 hj hv]
    rw [ZJ hw]
    exact h a ha.toAg0 _ Z Z _ _ λ v w' k=>hK _ _ (k _ (ha.put hd))
theorem KC {j t:Nat} {b b':Bool} (hj:(ops[j]?).bind (·.dst)=Zv t) (hv:look F t=Zv (Y b')) (hb:b'=b) (hd:m2 d n=Zj) (hy:Yl P n F w op ty v) (h:WL P ops Q rest n ((d,v)::F) w):
    WL P ops Q (⟨Zv d,op,ty,pos,aft,Zv (j,b)⟩::rest) n F w:=KU hj hv hb hd (hy.do h)
theorem Ma {j t:Nat} {b b':Bool} (hj:(ops[j]?).bind (·.dst)=Zv t) (hv:look F t=Zv (Y b')) (hb:b'= !b) (hd:m2 d n=Zj) (h:WL P ops Q rest n ((d,undef)::F) w):
    WL P ops Q (⟨Zv d,op,ty,pos,aft,Zv (j,b)⟩::rest) n F w:=λ a ha=>
  wpList_step λ _ hK=>by
    have hw:Region.wanted ⟨Zv d,op,ty,pos,aft,Zv (j,b)⟩ (yielded ops a.tmps)=O:=by subst hb; simp [Region.wanted,rY ha.toAg0 hj hv]
    rw [hw,ZK f7]
    exact hK _ _ (h _ (ha.put hd))
end
section game
variable {P:Program} {ops:Array Oper} {Q:Exit->Act->ZZ->Prop} {S:Array Bool->ZZ->Prop}
def wU (ops:Array Oper) (l:Array Bool):Prop:=∀ j,l.getD j O=Zj->∃ o,ops[j]? =Zv o/\∀ e ∈ o.after,Region.binds .any e=Zj->l.getD e.on O=Zj
theorem MG (ops:Array Oper):wU ops (Array.replicate ops.size O):=λ j h=>by
  simp only [Array.getD_eq_getD_getElem?,Array.getElem?_replicate] at h
  split at h <;> simp at h
theorem wU.step {l:Array Bool} {i:Nat} (h:wU ops l) (hi:i ∈ Region.ready .any ops l):wU ops (l.setIfInBounds i Zj):=λ j hj=>by
  by_cases e:i=j
  . subst e
    obtain⟨_,o,ho,hall⟩:=mem_ready.1 hi
    exact⟨o,ho,λ e he hb=>getD_set_true (hall e he hb)⟩
  . rw [getD_set_ne O e] at hj
    obtain⟨o,ho,hall⟩:=h j hj
    exact⟨o,ho,λ e he hb=>getD_set_true (hall e he hb)⟩
def wpAnyS (P:Program) (ops:Array Oper) (Q:Exit->Act->ZZ->Prop) (S:Array Bool->ZZ->Prop):Nat->Array Bool->Act->ZZ->Prop
  | 0,listed,a,w=>Region.ready .any ops listed= []/\Q .normal a w
  | fuel+1,listed,a,w=>
    (Region.ready .any ops listed= []->Q .normal a w)/\
    ∀ i ∈ Region.ready .any ops listed,wpOp P ops Q i (λ a' w'=>S (listed.setIfInBounds i Zj) w'/\wpAnyS P ops Q S fuel (listed.setIfInBounds i Zj) a' w') a w
theorem zn:∀ (fuel:Nat) (listed:Array Bool) (a:Act) (w:ZZ),wpAnyS P ops Q S fuel listed a w->wpAny P .any ops Q fuel listed a w
  | 0,_,_,_,h=>h
  | fuel+1,_,_,_,h=>⟨h.1,λ i hi=>wpOp_mono (λ a' w' h'=>zn fuel _ a' w' h'.2) (h.2 i hi)⟩
def Sat (ops:Array Oper) (S:Array Bool->ZZ->Prop) (i:Nat) (w:ZZ):Prop:=∃ l,wU ops l/\l.getD i Zj=O/\S l w
theorem wpAnyS_first {i:Nat} {oi:Oper} {v:ZQ} (hi:ops[i]? =Zv oi) (hsel:∀ (j:Nat) (o:Oper) cs b,ops[j]? =Zv o->o.op≠ .select cs b)
    (hQ:∀ c a w,Q (.panic c) (a.put oi.dst v) w->Q (.panic c) a w) (hSi:∀ l w,S (l.setIfInBounds i Zj) w↔S l w):
    ∀ (fuel:Nat) (listed:Array Bool) (a:Act) (w:ZZ),
      (∀ j oj,ops[j]? =Zv oj->j≠i->listed.getD j Zj=O->(∀ e ∈ oj.after,Region.binds .any e=Zj->e.on≠i)->oi.apart ops oj=Zj)->
      i ∈ Region.ready .any ops listed->YieldsIf P ops (Sat ops S i) oi v a->wU ops listed->S listed w->
      wpAnyS P ops Q S fuel (listed.setIfInBounds i Zj) (a.put oi.dst v) w->wpAnyS P ops Q S (fuel+1) listed a w:=by
  intro fuel
  induction fuel with
  | zero=>
    intro listed a w _ hr hy hc hS H
    refine⟨λ h=>(by rw [h] at hr; cases hr),λ j hj=> ?_⟩
    by_cases hji:j=i
    . subst hji
      exact hy.wpOp hi ⟨listed,hc,(mem_ready.1 hr).1,hS⟩ ⟨(hSi _ _).2 hS,H⟩
    . have:=ready_mono hj hji
      rw [H.1] at this
      cases this
  | succ fuel ih=>
    intro listed a w hfree hr hy hc hS H
    refine⟨λ h=>(by rw [h] at hr; cases hr),λ j hj=> ?_⟩
    by_cases hji:j=i
    . subst hji; exact hy.wpOp hi ⟨listed,hc,(mem_ready.1 hr).1,hS⟩ ⟨(hSi _ _).2 hS,H⟩
    . have f:=H.2 j (ready_mono hj hji)
      obtain⟨hjun,oj,hoj,hall⟩:=mem_ready.1 hj
      have hnot:∀ e ∈ oj.after,Region.binds .any e=Zj->e.on≠i:=λ e he hb heq=>by
        have f:=hall e he hb
        have m:=(mem_ready.1 hr).1
        rw [heq] at f
        rcases Nat.lt_or_ge i listed.size with h' | h'
        . simp [h'] at m f; rw [m] at f; cases f
        . simp [Array.getElem?_eq_none h'] at f
      have hfree':∀ k ok,ops[k]? =Zv ok->k≠i->(listed.setIfInBounds j Zj).getD k Zj=O->
          (∀ e ∈ ok.after,Region.binds .any e=Zj->e.on≠i)->oi.apart ops ok=Zj:=λ k ok hk hki hun hno=>by
        refine hfree k ok hk hki ?_ hno
        by_cases hjk:j=k
        . subst hjk; exact hjun
        . rw [getD_set_ne Zj hjk] at hun; exact hun
      refine wpOp_mono (λ a' w' g=> ?_) (wpOp_putIf hoj (hfree j oj hoj hji hjun hnot) (λ cs b=>hsel i oi cs b hi) (λ cs b=>hsel j oj cs b hoj) hQ hy f)
      have hS':S (listed.setIfInBounds j Zj) w':=by
        have:=g.2.1
        rw [<- Array.setIfInBounds_comm _ _ hji] at this
        exact(hSi _ _).1 this
      refine⟨hS',ih (listed.setIfInBounds j Zj) a' w' hfree' (ready_mono hr (Ne.symm hji)) g.1 (hc.step hj) hS' ?_⟩
      rw [Array.setIfInBounds_comm _ _ hji]
      exact g.2.2
def GW (P:Program) (ops:Array Oper) (Q:Exit->Act->ZZ->Prop) (S:Array Bool->ZZ->Prop) (fuel:Nat) (l:Array Bool) (n:Nat) (F:List (Nat × ZQ)) (w:ZZ):Prop:=
  wU ops l->S l w->∀ a,Ag n F a->wpAnyS P ops Q S fuel l a w
variable {n:Nat} {F:List (Nat × ZQ)} {w:ZZ} {op:Op} {ty:TypeId} {v:ZQ} {fuel:Nat} {l:Array Bool} {pos:String} {aft:Array Edge} {d:Nat}
theorem MH {i:Nat} {l:List Oper} (S:Array Bool->ZZ->Prop) (hm:P.follows .mixedOrders=Zj) (hS:S (Array.replicate l.toArray.size O) w.drew)
    (h:GW P l.toArray Q S l.toArray.size (Array.replicate l.toArray.size O) n F w.drew):Wp P (.region i l.toArray Zj) n F w Q:=λ a ha=>
  wp_region_any hm (zn _ _ _ _ (h (MG _) hS a ha))
def lX (ks:List Nat) (Good:ZZ->Prop) (l:Array Bool) (w:ZZ):Prop:=ks.any (λ k=>l.getD k O)=Zj\/Good w
def way (ops:Array Oper) (i:Nat):Nat->List Nat->Bool
  | k, []=>(ops[k]?).any λ o=>o.after.toList.any λ e=>Region.binds .any e && e.on==i
  | k,j::r=>((ops[k]?).any λ o=>o.after.toList.any λ e=>Region.binds .any e && e.on==j) && way ops i j r
theorem zo {i:Nat}:∀ (r:List Nat) (k:Nat),way ops i k r=Zj->wU ops l->l.getD k O=Zj->l.getD i O=Zj
  | [],k,h,hc,hk=>by
    obtain⟨o,ho,hall⟩:=hc k hk
    simp only [way,ho,Option.any_some,m3,Array.mem_toList_iff] at h
    obtain⟨e,he,a⟩:=h
    simp only [Bool.and_eq_true,beq_iff_eq] at a
    rw [<- a.2]; exact hall e he a.1
  | j::r,k,h,hc,hk=>by
    simp only [way,Bool.and_eq_true] at h
    obtain⟨o,ho,hall⟩:=hc k hk
    simp only [ho,Option.any_some,m3,Array.mem_toList_iff] at h
    obtain⟨⟨e,he,a⟩,b⟩:=h
    simp only [Bool.and_eq_true,beq_iff_eq] at a
    exact zo r j b hc (by rw [<- a.2]; exact hall e he a.1)
def ways (ops:Array Oper) (i:Nat):List Nat->List (List Nat)->Bool
  | [], []=>Zj
  | k::ks,r::rs=>way ops i k r && !(k==i) && ways ops i ks rs
  | _,_=>O
theorem rG {i:Nat}:∀ (ks:List Nat) (rs:List (List Nat)),ways ops i ks rs=Zj->i ∉ ks/\(wU ops l->l.getD i Zj=O->ks.any (λ k=>l.getD k O)=O)
  | [], [],_=>⟨by simp,λ _ _=>rfl⟩
  | k::ks,r::rs,h=>by
    simp only [ways,Bool.and_eq_true,Bool.not_eq_true',beq_eq_false_iff_ne] at h
    obtain⟨a,b⟩:=rG ks rs h.2
    refine⟨by simp only [List.mem_cons,not_or]; exact⟨λ e=>h.1.2 e.symm,a⟩,λ hc hi=> ?_⟩
    rw [List.any_cons,b hc hi,Bool.or_false,Bool.eq_false_iff]
    intro hk
    have:=zo r k h.1.1 hc hk
    rcases Nat.lt_or_ge i l.size with h' | h'
    . simp [h'] at this hi; rw [this] at hi; cases hi
    . simp [Array.getElem?_eq_none h'] at hi
theorem lX.same {ks:List Nat} {Good:ZZ->Prop} {i:Nat} (hi:i ∉ ks) (l:Array Bool) (w:ZZ):lX ks Good (l.setIfInBounds i Zj) w↔lX ks Good l w:=by
  have:ks.any (λ k=>(l.setIfInBounds i Zj).getD k O)=ks.any (λ k=>l.getD k O):=by
    rw [Bool.eq_iff_iff,m3,m3]
    exact exists_congr λ k=>and_congr_right λ hk=>by rw [getD_set_ne O (λ e=>hi (by rw [e]; exact hk))]
  unfold lX
  rw [this]
section
variable {ks:List Nat} {Good:ZZ->Prop}
theorem GW.take {i:Nat} {l':Array Bool} {rs:List (List Nat)} (hi:ops[i]? =Zv ⟨Zv d,op,ty,pos,aft,Zk⟩) (hs:Region.noSelect ops=Zj) (hd:m2 d n=Zj)
    (hQ:bJ Q) (hf:Region.free .any ops l i=Zj) (hr:(Region.ready .any ops l).contains i=Zj) (hw:ways ops i ks rs=Zj) (hl:l.setIfInBounds i Zj=l')
    (hy:∀ Z8,Good Z8->Yl P n F Z8 op ty v) (h:GW P ops Q (lX ks Good) fuel l' n ((d,v)::F) w):GW P ops Q (lX ks Good) (fuel+1) l n F w:=λ hc hS a ha=>by
  have hn:=rG (l:=l) ks rs hw
  have hr':i ∈ Region.ready .any ops l:=by simpa using hr
  refine wpAnyS_first (v:=v) hi (Region.noSelect_spec hs) (λ c a w hq=>absurd hq (hQ c _ w)) (lX.same hn.1) fuel l a w (Region.free_spec hi hf) hr' (.inl ⟨by simp [Region.wanted],λ Z8 hW=> ?_⟩) hc hS ?_
  . obtain⟨l2,e,f,b⟩:=hW
    refine hy Z8 ?_ a ha.toAg0 _ Z Z
    rcases b with b | b
    . rw [(rG (l:=l2) ks rs hw).2 e f] at b; cases b
    . exact b
  . rw [hl]
    exact h (hl ▸ hc.step hr') (hl ▸ (lX.same hn.1 _ _).2 hS) _ (ha.put hd)
theorem MI {i j t:Nat} {b b':Bool} {l':Array Bool} {rs:List (List Nat)} (hi:ops[i]? =Zv ⟨Zv d,op,ty,pos,aft,Zv (j,b)⟩) (hj:(ops[j]?).bind (·.dst)=Zv t) (hv:look F t=Zv (Y b')) (hb:b'=b) (hs:Region.noSelect ops=Zj) (hd:m2 d n=Zj)
    (hQ:bJ Q) (hf:Region.free .any ops l i=Zj) (hr:(Region.ready .any ops l).contains i=Zj) (hw:ways ops i ks rs=Zj) (hl:l.setIfInBounds i Zj=l')
    (hy:∀ Z8,Good Z8->Yl P n F Z8 op ty v) (h:GW P ops Q (lX ks Good) fuel l' n ((d,v)::F) w):GW P ops Q (lX ks Good) (fuel+1) l n F w:=λ hc hS a ha=>by
  have hn:=rG (l:=l) ks rs hw
  have hr':i ∈ Region.ready .any ops l:=by simpa using hr
  refine wpAnyS_first (v:=v) hi (Region.noSelect_spec hs) (λ c a w hq=>absurd hq (hQ c _ w)) (lX.same hn.1) fuel l a w (Region.free_spec hi hf) hr' (.inl ⟨by subst hb; simp [Region.wanted,rY ha.toAg0 hj hv],λ Z8 hW=> ?_⟩) hc hS ?_
  . obtain⟨l2,f,g,e⟩:=hW
    refine hy Z8 ?_ a ha.toAg0 _ Z Z
    rcases e with e | e
    . rw [(rG (l:=l2) ks rs hw).2 f g] at e; cases e
    . exact e
  . rw [hl]
    exact h (hl ▸ hc.step hr') (hl ▸ (lX.same hn.1 _ _).2 hS) _ (ha.put hd)
theorem MJ {i j t:Nat} {b b':Bool} {l':Array Bool} {rs:List (List Nat)} (hi:ops[i]? =Zv ⟨Zv d,op,ty,pos,aft,Zv (j,b)⟩) (hj:(ops[j]?).bind (·.dst)=Zv t) (hv:look F t=Zv (Y b')) (hb:b'= !b) (hs:Region.noSelect ops=Zj) (hd:m2 d n=Zj)
    (hQ:bJ Q) (hf:Region.free .any ops l i=Zj) (hr:(Region.ready .any ops l).contains i=Zj) (hw:ways ops i ks rs=Zj) (hl:l.setIfInBounds i Zj=l')
    (h:GW P ops Q (lX ks Good) fuel l' n ((d,undef)::F) w):GW P ops Q (lX ks Good) (fuel+1) l n F w:=λ hc hS a ha=>by
  have hn:=rG (l:=l) ks rs hw
  have hr':i ∈ Region.ready .any ops l:=by simpa using hr
  refine wpAnyS_first (v:=undef) hi (Region.noSelect_spec hs) (λ c a w hq=>absurd hq (hQ c _ w)) (lX.same hn.1) fuel l a w (Region.free_spec hi hf) hr' (.inr ⟨by subst hb; simp [Region.wanted,rY ha.toAg0 hj hv],Z⟩) hc hS ?_
  rw [hl]
  exact h (hl ▸ hc.step hr') (hl ▸ (lX.same hn.1 _ _).2 hS) _ (ha.put hd)
theorem Mt {i j t:Nat} {b:Bool} {l':Array Bool} {rs:List (List Nat)} (hi:ops[i]? =Zv ⟨Zv d,op,ty,pos,aft,Zv (j,b)⟩) (hj:(ops[j]?).bind (·.dst)=Zv t) (hv:look F t=Zv undef) (hs:Region.noSelect ops=Zj) (hd:m2 d n=Zj)
    (hQ:bJ Q) (hf:Region.free .any ops l i=Zj) (hr:(Region.ready .any ops l).contains i=Zj) (hw:ways ops i ks rs=Zj) (hl:l.setIfInBounds i Zj=l')
    (h:GW P ops Q (lX ks Good) fuel l' n ((d,undef)::F) w):GW P ops Q (lX ks Good) (fuel+1) l n F w:=λ hc hS a ha=>by
  have hn:=rG (l:=l) ks rs hw
  have hr':i ∈ Region.ready .any ops l:=by simpa using hr
  refine wpAnyS_first (v:=undef) hi (Region.noSelect_spec hs) (λ c a w hq=>absurd hq (hQ c _ w)) (lX.same hn.1) fuel l a w (Region.free_spec hi hf) hr' (.inr ⟨by simp [Region.wanted,wT ha.toAg0 hj hv],Z⟩) hc hS ?_
  rw [hl]
  exact h (hl ▸ hc.step hr') (hl ▸ (lX.same hn.1 _ _).2 hS) _ (ha.put hd)
theorem Eb {i:Nat} (h:ks.contains i=O):i ∉ ks:=λ hm=>by rw [List.contains_iff_mem.2 hm] at h; cases h
theorem MK {i:Nat} {l':Array Bool} (hi:ops[i]? =Zv ⟨Zv d,op,ty,pos,aft,Zk⟩) (hs:Region.noSelect ops=Zj) (hd:m2 d n=Zj)
    (hQ:bJ Q) (hf:Region.free .any ops l i=Zj) (hr:(Region.ready .any ops l).contains i=Zj) (hw:ks.contains i=O) (hl:l.setIfInBounds i Zj=l')
    (hy:∀ Z8,Yl P n F Z8 op ty v) (h:GW P ops Q (lX ks Good) fuel l' n ((d,v)::F) w):GW P ops Q (lX ks Good) (fuel+1) l n F w:=λ hc hS a ha=>by
  have hn:=Eb hw
  have hr':i ∈ Region.ready .any ops l:=by simpa using hr
  refine wpAnyS_first (v:=v) hi (Region.noSelect_spec hs) (λ c a w hq=>absurd hq (hQ c _ w)) (lX.same hn) fuel l a w (Region.free_spec hi hf) hr' (.inl ⟨by simp [Region.wanted],λ Z8 hW=>hy Z8 a ha.toAg0 _ Z Z⟩) hc hS ?_
  rw [hl]
  exact h (hl ▸ hc.step hr') (hl ▸ (lX.same hn _ _).2 hS) _ (ha.put hd)
end
theorem yF {S':Array Bool->ZZ->Prop} (hle:∀ l w,S' l w->S l w):∀ (fuel:Nat) (l:Array Bool) (a:Act) (w:ZZ),wpAnyS P ops Q S' fuel l a w->wpAnyS P ops Q S fuel l a w
  | 0,_,_,_,h=>h
  | fuel+1,_,_,_,h=>⟨h.1,λ i hi=>wpOp_mono (λ a' w' h'=>⟨hle _ _ h'.1,yF hle fuel _ a' w' h'.2⟩) (h.2 i hi)⟩
theorem MP {ks:List Nat} {Good Good':ZZ->Prop} (hle:∀ Z8,Good' Z8->Good Z8) (b:Good' w) (h:GW P ops Q (lX ks Good') fuel l n F w):GW P ops Q (lX ks Good) fuel l n F w:=λ hc _ a ha=>
  yF (S':=lX ks Good') (λ _ _ hs=>hs.imp id (hle _)) fuel l a w (h hc (.inr b) a ha)
theorem GW.do {i:Nat} {l':Array Bool} (hi:ops[i]? =Zv ⟨Zv d,op,ty,pos,aft,Zk⟩) (hd:m2 d n=Zj) (hr:Region.ready .any ops l= [i]) (hl:l.setIfInBounds i Zj=l')
    (h:Do P n F w op ty λ v w'=>S l' w'/\GW P ops Q S fuel l' n ((d,v)::F) w'):GW P ops Q S (fuel+1) l n F w:=λ hc hS a ha=>by
  refine⟨λ b=>(by rw [hr] at b; cases b),λ j hj=> ?_⟩
  have hcj:=hc.step hj
  rw [hr,m6] at hj
  subst hj
  unfold wpOp
  rw [hl] at hcj ⊢
  simp only [hi]
  rw [ZJ (by simp [Region.wanted])]
  exact .inl (h a ha.toAg0 _ Z Z _ _ λ v w' k=>⟨k.1,k.2 hcj k.1 _ (ha.put hd)⟩)
theorem MU {i:Nat} {l':Array Bool} (hi:ops[i]? =Zv ⟨Zk,op,ty,pos,aft,Zk⟩) (hr:Region.ready .any ops l= [i]) (hl:l.setIfInBounds i Zj=l')
    (h:Do P n F w op ty λ _ w'=>S l' w'/\GW P ops Q S fuel l' n F w'):GW P ops Q S (fuel+1) l n F w:=λ hc hS a ha=>by
  refine⟨λ b=>(by rw [hr] at b; cases b),λ j hj=> ?_⟩
  have hcj:=hc.step hj
  rw [hr,m6] at hj
  subst hj
  unfold wpOp
  rw [hl] at hcj ⊢
  simp only [hi]
  rw [ZJ (by simp [Region.wanted])]
  exact .inl (h a ha.toAg0 _ Z Z _ _ λ v w' k=>⟨k.1,k.2 hcj k.1 _ (ha.put0 v)⟩)
def GO (P:Program) (ops:Array Oper) (Q:Exit->Act->ZZ->Prop) (S:Array Bool->ZZ->Prop) (fuel:Nat) (l:Array Bool) (n:Nat) (F:List (Nat × ZQ)) (w:ZZ) (i:Nat):Prop:=
  wU ops l->i ∈ Region.ready .any ops l->S l w->∀ a,Ag n F a->wpOp P ops Q i (λ a' w'=>S (l.setIfInBounds i Zj) w'/\wpAnyS P ops Q S fuel (l.setIfInBounds i Zj) a' w') a w
theorem GW.any {rs:List Nat} (hr:Region.ready .any ops l=rs) (hne:rs.isEmpty=O) (h:∀ i ∈ rs,GO P ops Q S fuel l n F w i):GW P ops Q S (fuel+1) l n F w:=λ hc hS a ha=>
  ⟨λ b=>(by rw [hr] at b; subst b; cases hne),λ j hj=>h j (hr ▸ hj) hc hj hS a ha⟩
theorem GO.do {i:Nat} {l':Array Bool} (hi:ops[i]? =Zv ⟨Zv d,op,ty,pos,aft,Zk⟩) (hd:m2 d n=Zj) (hl:l.setIfInBounds i Zj=l')
    (h:Do P n F w op ty λ v w'=>S l' w'/\GW P ops Q S fuel l' n ((d,v)::F) w'):GO P ops Q S fuel l n F w i:=λ hc hj hS a ha=>by
  have hcj:=hc.step hj
  unfold wpOp
  rw [hl] at hcj ⊢
  simp only [hi]
  rw [ZJ (by simp [Region.wanted])]
  exact .inl (h a ha.toAg0 _ Z Z _ _ λ v w' k=>⟨k.1,k.2 hcj k.1 _ (ha.put hd)⟩)
theorem MV {i:Nat} {l':Array Bool} (hi:ops[i]? =Zv ⟨Zk,op,ty,pos,aft,Zk⟩) (hl:l.setIfInBounds i Zj=l')
    (h:Do P n F w op ty λ _ w'=>S l' w'/\GW P ops Q S fuel l' n F w'):GO P ops Q S fuel l n F w i:=λ hc hj hS a ha=>by
  have hcj:=hc.step hj
  unfold wpOp
  rw [hl] at hcj ⊢
  simp only [hi]
  rw [ZJ (by simp [Region.wanted])]
  exact .inl (h a ha.toAg0 _ Z Z _ _ λ v w' k=>⟨k.1,k.2 hcj k.1 _ (ha.put0 v)⟩)
theorem MQ (hr:Region.ready .any ops l= []) (h:Fin Q .normal n F w):GW P ops Q S fuel l n F w:=λ _ _ a ha=>by
  cases fuel with
  | zero=>exact⟨hr,h a ha⟩
  | succ k=>exact⟨λ _=>h a ha,by rw [hr]; simp⟩
end game
section ops
variable {P:Program} {n:Nat} {F:List (Nat × ZQ)} {w:ZZ} {op:Op} {ty:TypeId} {v:ZQ} {K:ZQ->ZZ->Prop}
def oW (F:List (Nat × ZQ)) (x:Operand):ZQ:=(ev F x).getD undef
def known (F:List (Nat × ZQ)):List Operand->Bool
  | []=>Zj
  | x::r=>(ev F x).isSome && known F r
theorem uB {a:Act} (ha:Ag0 n F a):∀ {xs:List Operand},known F xs=Zj->∀ x ∈ xs,a.eval x=oW F x
  | [],_,_,hx=>by cases hx
  | y::r,h,x,hx=>by
    simp only [known,Bool.and_eq_true] at h
    rcases List.mem_cons.1 hx with rfl | hx
    . obtain⟨v,hv⟩:=Option.isSome_iff_exists.1 h.1
      rw [ha.eval hv,oW,hv]; rfl
    . exact uB ha h.2 x hx
def qF:Op->Bool
  | .select _ _=>O
  | _=>Zj
theorem wz (h:qF op=Zj):∀ cs b,op≠ .select cs b:=λ cs b e=>by subst e; cases h
theorem Lv (hk:known F op.operands.toList=Zj) (b:qF op=Zj) (h:∀ Z8,(execOp (oW F) ⟨Zk,op,ty, "", #[],Zk⟩).run P Z8= .ok (.value v) Z8):Yl P n F w op ty v:=λ a ha o c f=>by
  have hs:=wz b
  have e:execOp a.eval o=execOp (oW F) o:=execOp_congr o (by rw [c]; exact hs) λ x hx=>uB ha hk x (by rw [c] at hx; simpa using hx)
  have g:execOp (oW F) o=execOp (oW F) ⟨Zk,op,ty, "", #[],Zk⟩:=by
    unfold execOp
    rw [c,f]
  rw [e,g]; exact h w
theorem J3 {x:Operand} (hx:ev F x=Zv v):Yl P n F w (.move x) ty v:=λ a ha o b _=>by
  unfold execOp; rw [b]; simp [ha.eval hx]
theorem KV {x:Operand} (hx:ev F x=Zv v):Yl P n F w (.assign x) ty v:=λ a ha o b _=>by
  unfold execOp; rw [b]; simp [ha.eval hx]
theorem J4 {k:IntKind} {e e':Int} (h:Yl P n F w op ty (.int k e)) (he:e=e'):Yl P n F w op ty (.int k e'):=by rw [<- he]; exact h
theorem Kc {e e':Bool} (h:Yl P n F w op ty (Y e)) (he:e=e'):Yl P n F w op ty (Y e'):=by rw [<- he]; exact h
theorem Yl.to {v':ZQ} (h:Yl P n F w op ty v) (he:v=v'):Yl P n F w op ty v':=by rw [<- he]; exact h
theorem JX {c x y:Operand} {b:Bool} (hc:ev F c=Zv (Y b)) (hb:b=Zj) (hx:ev F x=Zv v):Yl P n F w (.pick c x y) ty v:=λ a ha o e _=>by
  subst hb
  unfold execOp
  rw [e]
  simp [ha.eval hc,asBool,ha.eval hx]
theorem QJ {c x y:Operand}{b:Bool}(hx:ev F x=Zv v)(hc:ev F c=Zv (Y b):=by exact Z)(hb:b=Zj:=by exact Z):Yl P n F w (.pick c x y) ty v:=JX hc hb hx
theorem JU {c x y:Operand} {b:Bool} (hc:ev F c=Zv (Y b)) (hb:b=O) (hy:ev F y=Zv v):Yl P n F w (.pick c x y) ty v:=λ a ha o e _=>by
  subst hb
  unfold execOp
  rw [e]
  simp [ha.eval hc,asBool,ha.eval hy]
theorem QK {c x y:Operand}{b:Bool}(hy:ev F y=Zv v)(hc:ev F c=Zv (Y b):=by exact Z)(hb:b=O:=by exact Z):Yl P n F w (.pick c x y) ty v:=JU hc hb hy
theorem MW {S:Array Bool->ZZ->Prop} {ops:Array Oper} {Q:Exit->Act->ZZ->Prop} {fuel:Nat} {l:Array Bool} {pos:String} {aft:Array Edge} {d i j t:Nat} {b b':Bool} {l':Array Bool} (hi:ops[i]? =Zv ⟨Zv d,op,ty,pos,aft,Zv (j,b)⟩) (hj:(ops[j]?).bind (·.dst)=Zv t) (hv:look F t=Zv (Y b')) (hb:b'=b) (hd:m2 d n=Zj) (hr:Region.ready .any ops l= [i]) (hl:l.setIfInBounds i Zj=l')
    (h:Do P n F w op ty λ v w'=>S l' w'/\GW P ops Q S fuel l' n ((d,v)::F) w'):GW P ops Q S (fuel+1) l n F w:=λ hc hS a ha=>by
  refine⟨λ c=>(by rw [hr] at c; cases c),λ j hj'=> ?_⟩
  have hcj:=hc.step hj'
  rw [hr,m6] at hj'
  subst hj'
  unfold wpOp
  rw [hl] at hcj ⊢
  simp only [hi]
  rw [ZJ (by subst hb; simp [Region.wanted,rY ha.toAg0 hj hv])]
  exact .inl (h a ha.toAg0 _ Z Z _ _ λ v w' k=>⟨k.1,k.2 hcj k.1 _ (ha.put hd)⟩)
end ops
end
section
open Go.RowKit
@[reducible] def HP:Type:=(Nat->Option Obj)->Prop
def kT (L:List HP) (h:Nat->Option Obj):Prop:=
  ∃ f:Nat->Nat->Option Obj,(∀ (i:Nat) (R:HP),L[i]? =Zv R->R (f i))/\(∀ i k o,f i k=Zv o->h k=Zv o)/\(∀ i j k,i≠j->f i k=Zk\/f j k=Zk)
structure Own (w0:World) (D:Nat->Prop) (w:World) (L:List HP):Prop where q::
  os:w.os=w0.os
  tape:w.tape=w0.tape
  output:w.output=w0.output
  size:w0.heap.size<=w.heap.size
  keep:∀ k,k < w0.heap.size->¬ D k->w.heap[k]? =w0.heap[k]?
  own:∃ h:Nat->Option Obj,(∀ k o,h k=Zv o->w.heap[k]? =Zv o/\(D k\/w0.heap.size<=k))/\kT L h
def Ro (w0:ZZ) (D:Nat->Prop) (φ:ZZ->Prop):Prop:=∀ w:ZZ,(∀ k,k < w0.heap.size->¬ D k->w.heap[k]? =w0.heap[k]?)->φ w
theorem yf {w:ZZ} {k:Nat} {o:Obj} (h:w.heap[k]? =Zv o):k < w.heap.size:=(Array.getElem?_eq_some_iff.1 h).1
section
variable {w0 w w':ZZ} {D:Nat->Prop} {L L1 L2:List HP} {R R':HP}
theorem Mw (w:ZZ):Own w (λ _=>False) w []:=⟨Z,Z,Z,Nat.le_refl _,λ _ _ _=>rfl,λ _=>Zk,λ _ _ h=>(by cases h),λ _ _=>Zk,λ i R h=>(by simp at h),λ _ _ _ h=>(by cases h),λ _ _ _ _=> .inl Z⟩
theorem Own.below (H:Own w0 (λ _=>False) w L):Below w0.heap.size w0 w:=⟨H.os,H.tape,H.output,H.size,λ k hk=>H.keep k hk (λ h=>h)⟩
theorem Own.ro {φ:ZZ->Prop} (H:Own w0 D w L) (h:Ro w0 D φ):φ w:=h w H.keep
theorem Own.drew (H:Own w0 D w L):Own w0 D w.drew L:=⟨H.os,H.tape,H.output,H.size,H.keep,H.own⟩
theorem Own.get {i:Nat} (H:Own w0 D w L) (hi:L[i]? =Zv R):∃ h,R h/\∀ k o,h k=Zv o->w.heap[k]? =Zv o:=by
  obtain⟨h,a,f,b,d,_⟩:=H.own
  exact⟨f i,b i R hi,λ k o hk=>(a k o (d i k o hk)).1⟩
def pk (L:List HP):List Nat->Option (List HP)
  | []=>Zv []
  | i::r=>match L[i]?,pk L r with
    | some R,some s=>Zv (R::s)
    | _,_=>Zk
theorem GD:∀ (idx:List Nat) (L':List HP),pk L idx=Zv L'->∀ (j:Nat) (R:HP),L'[j]? =Zv R->∃ i:Nat,idx[j]? =Zv i/\L[i]? =Zv R
  | [],L',h,j,R,hj=>by simp [pk] at h; subst h; simp at hj
  | i::r,L',h,j,R,hj=>by
    unfold pk at h
    split at h
    . rename_i d s a b
      simp only [Option.some.injEq] at h
      subst h
      cases j with
      | zero=>simp only [List.getElem?_cons_zero,Option.some.injEq] at hj; subst hj; exact⟨i,Z,a⟩
      | succ j=>exact GD r s b j R hj
    . cases h
theorem kT.pick {h:Nat->Option Obj} {L':List HP} (idx:List Nat) (hn:idx.Nodup) (hp:pk L idx=Zv L') (H:kT L h):kT L' h:=by
  obtain⟨f,m,p,f3⟩:=H
  refine⟨λ j=>match idx[j]? with | some i=>f i | none=>λ _=>Zk,λ j R hj=> ?_,λ j k o hk=> ?_,λ j j' k hne=> ?_⟩
  . obtain⟨i,hi,hR⟩:=GD idx L' hp j R hj
    simp only [hi]; exact m i R hR
  . cases hi:idx[j]? with
    | none=>simp [hi] at hk
    | some i=>simp only [hi] at hk; exact p i k o hk
  . cases hi:idx[j]? with
    | none=>exact .inl (by simp [hi])
    | some i=>
      cases hi':idx[j']? with
      | none=>exact .inr (by simp [hi'])
      | some i'=>
        simp only [hi,hi']
        refine f3 i i' k λ e=>hne ?_
        subst e
        obtain⟨a,b⟩:=List.getElem?_eq_some_iff.1 hi
        obtain⟨d,l⟩:=List.getElem?_eq_some_iff.1 hi'
        have hp:=List.pairwise_iff_getElem.1 hn
        rcases Nat.lt_trichotomy j j' with e | e | e
        . exact absurd (b.trans l.symm) (hp j j' a d e)
        . exact e
        . exact absurd (l.trans b.symm) (hp j' j d a e)
theorem Own.pick {L':List HP} (H:Own w0 D w L) (idx:List Nat) (hn:idx.Nodup) (hp:pk L idx=Zv L'):Own w0 D w L':=
  let ⟨h,a,b⟩:=H.own
  ⟨H.os,H.tape,H.output,H.size,H.keep,h,a,b.pick idx hn hp⟩
open Classical in
theorem Own.enter (H:Own w0 D w (L1++L2)):∃ a:Nat->Prop,Own w a w L1/\(∀ φ,Ro w0 D φ->Ro w a φ)/\(∀ w' L',Own w a w' L'->Own w0 D w' (L'++L2))/\
    (∀ (φ:ZZ->Prop) (i:Nat) (R:HP),L2[i]? =Zv R->(∀ w' h,R h->(∀ k o,h k=Zv o->w'.heap[k]? =Zv o)->φ w')->Ro w a φ):=by
  obtain⟨h,l,f,q,m,f3⟩:=H.own
  let a:Nat->Prop:=λ k=> ∃ i,i < X L1/\f i k≠Zk
  have b:∀ k,a k->D k\/w0.heap.size<=k:=λ k ⟨i,_,hk⟩=>by
    cases hf:f i k with
    | none=>exact absurd hf hk
    | some o=>exact(l k o (m i k o hf)).2
  have hfr:∀ j k o,f (X L1+j) k=Zv o->¬ a k:=λ j k o hk ⟨i,hi,hik⟩=>by
    rcases f3 i (X L1+j) k U with e | e
    . exact hik e
    . rw [hk] at e; cases e
  refine⟨a,⟨Z,Z,Z,Nat.le_refl _,λ _ _ _=>rfl,λ k=>if a k then h k else Zk,λ k o hk=> ?_,λ i=>if i < X L1 then f i else λ _=>Zk,λ i R hi=> ?_,λ i k o hk=> ?_,λ i j k hne=> ?_⟩,λ φ hφ Z8 hW=> ?_,λ w' L' H'=> ?_,λ φ i R hR hφ Z8 hW=> ?_⟩
  . dsimp only at hk
    by_cases hd:a k
    . rw [ZJ hd] at hk; exact⟨(l k o hk).1, .inl hd⟩
    . rw [ZK hd] at hk; cases hk
  . have hlt:=(List.getElem?_eq_some_iff.1 hi).1
    dsimp only
    rw [ZJ hlt]
    exact q i R (by rw [List.getElem?_append_left hlt]; exact hi)
  . dsimp only at hk ⊢
    by_cases hlt:i < X L1
    . rw [ZJ hlt] at hk
      rw [ZJ (show a k from ⟨i,hlt,by rw [hk]; exact Option.some_ne_none _⟩)]
      exact m i k o hk
    . rw [ZK hlt] at hk; cases hk
  . dsimp only
    by_cases hlt:i < X L1
    . by_cases hlt':j < X L1
      . rw [ZJ hlt,ZJ hlt']; exact f3 i j k hne
      . exact .inr (by rw [ZK hlt'])
    . exact .inl (by rw [ZK hlt])
  . refine hφ Z8 λ k hk hd=> ?_
    have d: ¬ a k:=λ e=>by
      rcases b k e with e | e
      . exact hd e
      . omega
    rw [hW k (Nat.lt_of_lt_of_le hk H.size) d,H.keep k hk hd]
  . obtain⟨h',r,f',x,u,y⟩:=H'.own
    have hdis:∀ j k o,f (X L1+j) k=Zv o->∀ i,f' i k=Zk:=λ j k o hk i=>by
      cases hi:f' i k with
      | none=>rfl
      | some o'=>
        rcases (r k o' (u i k o' hi)).2 with e | e
        . exact absurd e (hfr j k o hk)
        . have:=yf (l k o (m _ k o hk)).1; omega
    have hdis':∀ j k o,f (X L1+j) k=Zv o->h' k=Zk:=λ j k o hk=>by
      cases hi:h' k with
      | none=>rfl
      | some o'=>
        rcases (r k o' hi).2 with e | e
        . exact absurd e (hfr j k o hk)
        . have:=yf (l k o (m _ k o hk)).1; omega
    refine⟨H'.os.trans H.os,H'.tape.trans H.tape,H'.output.trans H.output,Nat.le_trans H.size H'.size,λ k hk hd=> ?_,λ k=>match h' k with | some o=>Zv o | none=>if ∃ j,f (X L1+j) k≠Zk then h k else Zk,λ k o hk=> ?_,λ i=>if i < X L' then f' i else f (X L1+(i - X L')),λ i R hi=> ?_,λ i k o hk=> ?_,λ i j k hne=> ?_⟩
    . have d: ¬ a k:=λ e=>by
        rcases b k e with e | e
        . exact hd e
        . omega
      rw [H'.keep k (Nat.lt_of_lt_of_le hk H.size) d,H.keep k hk hd]
    . dsimp only at hk
      cases hh:h' k with
      | some o'=>
        simp only [hh,Option.some.injEq] at hk
        subst hk
        obtain⟨p,s⟩:=r k o' hh
        refine⟨p, ?_⟩
        rcases s with e | e
        . exact b k e
        . exact .inr (Nat.le_trans H.size e)
      | none=>
        simp only [hh] at hk
        by_cases he:∃ j,f (X L1+j) k≠Zk
        . rw [ZJ he] at hk
          obtain⟨j,hj⟩:=he
          obtain⟨o',ho'⟩:=Option.ne_none_iff_exists'.1 hj
          obtain⟨p,s⟩:=l k o hk
          exact⟨by rw [H'.keep k (yf p) (hfr j k o' ho')]; exact p,s⟩
        . rw [ZK he] at hk; cases hk
    . dsimp only
      by_cases hlt:i < X L'
      . rw [ZJ hlt]; rw [List.getElem?_append_left hlt] at hi; exact x i R hi
      . rw [ZK hlt]
        rw [List.getElem?_append_right U] at hi
        exact q _ R (by rw [List.getElem?_append_right U,Nat.add_sub_cancel_left]; exact hi)
    . dsimp only at hk ⊢
      by_cases hlt:i < X L'
      . rw [ZJ hlt] at hk
        have:=u i k o hk
        simp only [this]
      . rw [ZK hlt] at hk
        simp only [hdis' _ k o hk]
        rw [ZJ ⟨_,by rw [hk]; exact Option.some_ne_none _⟩]
        exact m _ k o hk
    . dsimp only
      by_cases hi:i < X L'
      . by_cases hj:j < X L'
        . rw [ZJ hi,ZJ hj]; exact y i j k hne
        . rw [ZJ hi,ZK hj]
          cases hk:f (X L1+(j - X L')) k with
          | none=>exact .inr Z
          | some o=>exact .inl (hdis _ k o hk i)
      . by_cases hj:j < X L'
        . rw [ZK hi,ZJ hj]
          cases hk:f (X L1+(i - X L')) k with
          | none=>exact .inl Z
          | some o=>exact .inr (hdis _ k o hk j)
        . rw [ZK hi,ZK hj]; exact f3 _ _ k U
  . refine hφ Z8 (f (X L1+i)) (q _ R (by rw [List.getElem?_append_right U,Nat.add_sub_cancel_left]; exact hR)) λ k o hk=> ?_
    have:=(l k o (m _ k o hk)).1
    rw [hW k (yf this) (hfr i k o hk)]; exact this
theorem Own.upd (H:Own w0 D w (R::L)) (hos:w'.os=w.os) (htape:w'.tape=w.tape) (hout:w'.output=w.output) (hsz:w.heap.size<=w'.heap.size)
    (hu:∀ a,R a->(∀ k o,a k=Zv o->w.heap[k]? =Zv o)->∃ b,R' b/\(∀ k o,b k=Zv o->w'.heap[k]? =Zv o/\(a k≠Zk\/w.heap.size<=k))/\∀ k,k < w.heap.size->a k=Zk->w'.heap[k]? =w.heap[k]?):Own w0 D w' (R'::L):=by
  obtain⟨m,HE,_,hb,_⟩:=Own.enter (L1:= [R]) (L2:=L) H
  obtain⟨h,a,f,p,d,_⟩:=HE.own
  obtain⟨b,q,l,r⟩:=hu (f 0) (p 0 R Z) λ k o hk=>(a k o (d 0 k o hk)).1
  have hD:∀ k,f 0 k≠Zk->m k\/w.heap.size<=k:=λ k hk=>by
    obtain⟨o,ho⟩:=Option.ne_none_iff_exists'.1 hk
    exact(a k o (d 0 k o ho)).2
  refine hb w' [R'] ⟨hos,htape,hout,hsz,λ k hk hd=>r k hk ?_,b,λ k o hk=>⟨(l k o hk).1, ?_⟩,λ i=>if i=0 then b else λ _=>Zk,λ i S hi=> ?_,λ i k o hk=> ?_,λ i j k hne=> ?_⟩
  . cases e:f 0 k with
    | none=>rfl
    | some o=>
      rcases hD k (by rw [e]; exact Option.some_ne_none _) with e | e
      . exact absurd e hd
      . omega
  . rcases (l k o hk).2 with e | e
    . exact hD k e
    . exact .inr e
  . cases i with
    | zero=>simp only [List.getElem?_cons_zero,Option.some.injEq] at hi; subst hi; exact q
    | succ i=>simp at hi
  . by_cases e:i=0
    . simp only [e,if_true] at hk; exact hk
    . simp only [e,if_false] at hk; cases hk
  . by_cases e:i=0
    . by_cases e':j=0
      . omega
      . exact .inr (by simp [e'])
    . exact .inl (by simp [e])
theorem Own.cons {R:HP} (H:Own w0 D w L) (hos:w'.os=w.os) (htape:w'.tape=w.tape) (hout:w'.output=w.output) (hsz:w.heap.size<=w'.heap.size) (hk:∀ k,k < w.heap.size->w'.heap[k]? =w.heap[k]?)
    (a:Nat->Option Obj) (hR:R a) (hh:∀ k o,a k=Zv o->w'.heap[k]? =Zv o/\w.heap.size<=k):Own w0 D w' (R::L):=by
  obtain⟨b,_,_,hb,_⟩:=Own.enter (L1:= []) (L2:=L) H
  refine hb w' [R] ⟨hos,htape,hout,hsz,λ k h _=>hk k h,a,λ k o h=>⟨(hh k o h).1, .inr (hh k o h).2⟩,λ i=>if i=0 then a else λ _=>Zk,λ i S hi=> ?_,λ i k o hk=> ?_,λ i j k hne=> ?_⟩
  . cases i with
    | zero=>simp only [List.getElem?_cons_zero,Option.some.injEq] at hi; subst hi; exact hR
    | succ i=>simp at hi
  . by_cases e:i=0
    . simp only [e,if_true] at hk; exact hk
    . simp only [e,if_false] at hk; cases hk
  . by_cases e:i=0
    . by_cases e':j=0
      . omega
      . exact .inr (by simp [e'])
    . exact .inl (by simp [e])
theorem Own.alloc (H:Own w0 D w L) (o:Obj) (hR:R (λ k=>if k=w.heap.size then Zv o else Zk)):Own w0 D (w.alloc o) (R::L):=by
  refine H.cons Z Z Z i2 (λ k hk=>Below.heap_alloc w o k hk) _ hR λ k o' hk=> ?_
  by_cases e:k=w.heap.size
  . simp only [e,if_true,Option.some.injEq] at hk ⊢
    subst hk
    exact⟨heap_alloc_new w _,Nat.le_refl _⟩
  . simp only [e,if_false] at hk; cases hk
theorem Own.free {R:HP} (H:Own w0 D w L) (hR:R λ _=>Zk):Own w0 D w (R::L):=
  H.cons Z Z Z (Nat.le_refl _) (λ _ _=>rfl) _ hR λ k o hk=>by cases hk
theorem Own.imp (H:Own w0 D w (R::L)) (h:∀ a,R a->R' a):Own w0 D w (R'::L):=
  H.upd Z Z Z (Nat.le_refl _) λ a hr hs=>⟨a,h a hr,λ k o hk=>⟨hs k o hk, .inl (by rw [hk]; exact Option.some_ne_none _)⟩,λ _ _ _=>rfl⟩
end
end
open List renaming getElem?_drop->m8,getElem?_take->m7,length_append->o3,length_drop->o2,length_take->o1,size_toArray->p0
open Nat renaming mul_le_mul_right->o0,zero_add->m9
section
open Go.RowKit
theorem add0 (b off j:Nat):(⟨b,off,Zk⟩:Addr).add j=⟨b,off+j,Zk⟩:=by
  unfold Addr.add
  split
  . rename_i h; subst h; simp
  . rfl
def ab:Option Addr->Nat
  | some a=>a.block
  | none=>0
def ao:Option Addr->Nat
  | some a=>a.off
  | none=>0
def gQ (w:ZZ) (g o:Nat) (cs:List ZQ):Prop:=∀ (j:Nat) (u:ZQ),cs[j]? =Zv u->w.cell? ⟨g,o+j,Zk⟩=Zv u
def bV (w:ZZ) (sz:Nat) (A:Option Addr) (n:Nat) (xs:List ZQ):Prop:=X xs=n *sz/\(0 < n->A=Zv ⟨ab A,ao A,Zk⟩/\gQ w (ab A) (ao A) xs)
def xk (fz:Nat × Nat) (n:Nat):Prop:=fz.1=fz.2\/n<=fz.1
theorem xk.no {fz:Nat × Nat} {n:Nat} (h:xk fz n):∀ j,j < n->¬ (fz.1<=j/\j < fz.2):=λ j hj hh=>by
  rcases h with h | h <;> omega
theorem xk.zero (n:Nat):xk (0,0) n:= .inl Z
def blk (g:Nat) (cs:List ZQ) (t:TypeId):HP:=λ h=> ∃ fz:Nat × Nat,h g=Zv (.cells cs.toArray t fz)/\xk fz (X cs)
def row (A:Option Addr) (n c:Nat) (xs:List ZQ) (t:TypeId) (sz:Nat):HP:=λ h=>X xs=n *sz/\
  ((A=Zk/\n=0/\c=0)\/∃ (g:Nat) (cur:Array ZQ) (fz:Nat × Nat),A=Zv ⟨g,0,Zk⟩/\h g=Zv (.cells cur t fz)/\n<=c/\c<=maxLen/\cur.size=c *sz/\cur.toList.take (n *sz)=xs/\xk fz cur.size)
section
variable {P:Program} {w0 w:ZZ} {D:Nat->Prop} {L:List HP} {g o n c sz:Nat} {A:Option Addr} {cs xs:List ZQ} {t Z7:TypeId} {v:ZQ}
theorem gQ.sub {k:Nat} {cs':List ZQ} (h:gQ w g o cs) (hs:∀ (j:Nat) u,cs'[j]? =Zv u->cs[k+j]? =Zv u):gQ w g (o+k) cs':=λ j u hj=>by
  rw [Nat.add_assoc]; exact h _ _ (hs j u hj)
theorem gQ.lit {k m:Nat} {cs':List ZQ} (h:gQ w g o cs) (hs:(cs.drop k).take m=cs'):gQ w g (o+k) cs':=h.sub λ j u hj=>by
  subst hs
  rw [m7] at hj
  split at hj
  . rw [m8] at hj; exact hj
  . cases hj
theorem gQ.at_ {k:Nat} (h:gQ w g o cs) (hk:cs[k]? =Zv v):w.cell? ⟨g,o+k,Zk⟩=Zv v:=h k v hk
theorem Kw (h:gQ w g 0 cs) (hk:cs[o]? =Zv v):w.cell? ⟨g,o,Zk⟩=Zv v:=by have:=h o v hk; rwa [m9] at this
theorem Own.cls {i:Nat} (H:Own w0 D w L) (hi:L[i]? =Zv (blk g cs t)):gQ w g 0 cs:=by
  obtain⟨h,⟨fz,a,_⟩,b⟩:=H.get hi
  intro j u hj
  rw [cell_of_row w g (0+j) _ t fz (b g _ a),m9,List.getElem?_toArray]
  exact hj
theorem Own.rds {i:Nat} (H:Own w0 D w L) (hi:L[i]? =Zv (row A n c xs t sz)):bV w sz A n xs:=by
  obtain⟨h,⟨hl,hr⟩,a⟩:=H.get hi
  refine⟨hl,λ hn=> ?_⟩
  rcases hr with ⟨_,d,_⟩ | ⟨g,cur,fz,rfl,b,_,_,_,htk,_⟩
  . omega
  . refine⟨Z,λ j u hj=> ?_⟩
    show w.cell? ⟨g,0+j,Zk⟩=Zv u
    rw [cell_of_row w g (0+j) _ t fz (a g _ b),m9, <- Array.getElem?_toList]
    rw [<- htk,m7] at hj
    split at hj
    . exact hj
    . cases hj
theorem Own.rowLe {i:Nat} (H:Own w0 D w L) (hi:L[i]? =Zv (row A n c xs t sz)):n<=c/\c<=maxLen/\X xs=n *sz:=by
  obtain⟨h,⟨hl,hr⟩,_⟩:=H.get hi
  rcases hr with ⟨_,d,a⟩ | ⟨g,cur,fz,_,_,a,b,_⟩
  . exact⟨U,U,hl⟩
  . exact⟨a,b,hl⟩
theorem bV.nil (w:ZZ) (sz:Nat) (A:Option Addr):bV w sz A 0 []:=⟨by simp,λ h=>absurd h (Nat.lt_irrefl 0)⟩
theorem bV.cls (h:bV w sz A n xs) (hn:0 < n):gQ w (ab A) (ao A) xs:=(h.2 hn).2
theorem bV.isSome (h:bV w sz A n xs) (hn:0 < n):A=Zv ⟨ab A,ao A,Zk⟩:=(h.2 hn).1
theorem bV.cell {j:Nat} (h:bV w sz A n xs) (hj:xs[j]? =Zv v):w.cell? ⟨ab A,ao A+j,Zk⟩=Zv v:=by
  have hl:=(List.getElem?_eq_some_iff.1 hj).1
  have hn:0 < n:=by
    rcases Nat.eq_zero_or_pos n with e | e
    . rw [h.1,e,Nat.zero_mul] at hl; omega
    . exact e
  exact h.cls hn j v hj
theorem bV.ro (h:bV w sz A n xs) (hz:0 < sz):Ro w (λ _=>False) λ w=>bV w sz A n xs:=λ Z8 hW=>by
  refine⟨h.1,λ hn=>⟨h.isSome hn,λ j u hj=> ?_⟩⟩
  have hc:=h.cls hn j u hj
  rw [World.cell?_of_block (w:=w) (hW _ (World.block_lt_of_cell? w _ hc) (λ e=>e))]
  exact hc
theorem bV.sub {k m:Nat} {A':Option Addr} (h:bV w sz A n xs) (hk:k+m<=n) (hA:0 < m->A'=Zv ⟨ab A,ao A+k *sz,Zk⟩):bV w sz A' m ((xs.drop (k *sz)).take (m *sz)):=by
  have e:k *sz+m *sz<=n *sz:=by rw [<- Nat.add_mul]; exact o0 _ hk
  have hl:=h.1
  refine⟨by simp only [o1,o2]; omega,λ hm=> ?_⟩
  rw [hA hm]
  exact⟨Z,(h.cls U).sub λ j u hj=>by
    rw [m7] at hj
    split at hj
    . rw [m8] at hj; exact hj
    . cases hj⟩
theorem bO.one {p:Addr} (hT:∀ Z8,(isAgg Z7).run P Z8= .ok O Z8) (h:w.cell? p=Zv v):bO P w Z7 p v:=by
  unfold bO loadVar
  simp [hT w,h,Result.andThen]
theorem J7 (hT:∀ Z8,(isAgg Z7).run P Z8= .ok Zj Z8) (hS:∀ Z8,(sizeOf Z7).run P Z8= .ok (X cs) Z8) (h:gQ w g o cs):bO P w Z7 ⟨g,o,Zk⟩ (Zq cs.toArray):=by
  unfold bO loadVar
  have hl:=run_loadCells_list (P:=P) w ⟨g,o,Zk⟩ cs λ j u hj=>by rw [add0]; exact h j u hj
  simp [hT w,hS w,Result.andThen,hl]
theorem oD (g o:Nat) (t:TypeId) (fz:Nat × Nat):∀ (vs:List ZQ) (i:Nat) (cur:Array ZQ) (w:ZZ),w.heap[g]? =Zv (.cells cur t fz)->o+i+X vs<=cur.size->(∀ j,j < cur.size->¬ (fz.1<=j/\j < fz.2))->(∀ v ∈ vs,v.oneCell'=Zj)->
    (storeCells ⟨g,o,Zk⟩ vs i).run P w= .ok () (w.setRow g (Zb (cur.toList.take (o+i)++vs++cur.toList.drop (o+i+X vs))))
  | [],i,cur,w,hg,_,_,_=>by
    simp only [storeCells,List.append_nil,List.length_nil,Nat.add_zero,List.take_append_drop,Array.toArray_toList]
    rw [setRow_self w g cur t fz hg]
    rfl
  | v::rest,i,cur,w,hg,hl,hz,a=>by
    have hi:o+i < cur.size:=by simp at hl; omega
    have hadd:(⟨g,o,Zk⟩:Addr).add i=⟨g,o+i,Zk⟩:=add0 g o i
    have hcell:w.cell? ⟨g,o+i,Zk⟩=Zv cur[o+i]:=by simp [World.cell?,hg,hi]
    have hfro:w.frozen? ⟨g,o+i,Zk⟩=O:=by
      have:=hz (o+i) hi
      simp only [World.frozen?,hg]
      rw [Bool.eq_false_iff]
      intro hh
      simp only [Bool.and_eq_true,decide_eq_true_eq] at hh
      exact this hh
    have hst:(store ((⟨g,o,Zk⟩:Addr).add i) v).run P w= .ok () (w.setRow g (cur.setIfInBounds (o+i) v)):=by
      rw [hadd,run_store P w _ v _ (a v i2),hcell]
      simp [hfro,setCell_eq_setRow w g (o+i) cur t fz v hg]
    have ih:=oD g o t fz rest (i+1) (cur.setIfInBounds (o+i) v) (w.setRow g (cur.setIfInBounds (o+i) v)) (setRow_heap w g cur _ t _ hg) (by simp at hl ⊢; omega) (by simpa using hz) (λ x hx=>a x (by simp [hx]))
    simp only [storeCells,Sem.run_bind,hst,Result.andThen_ok,ih,setRow_setRow]
    congr 3
    have e:=list_seg_step cur.toList (o+i) v rest (by simp at hl ⊢; omega)
    simpa [Array.toList_setIfInBounds,Nat.add_assoc] using e
def put (cur:List ZQ) (o:Nat) (vs:List ZQ):List ZQ:=cur.take o++vs++cur.drop (o+X vs)
theorem uw {cur vs:List ZQ} {o:Nat} (h:o+X vs<=X cur):X (put cur o vs)=X cur:=by
  simp only [put,o3,o1,o2]; omega
theorem Lj {vs:List ZQ} (hS:∀ Z8,(sizeOf Z7).run P Z8= .ok (X vs) Z8) (hv:v.cells=vs.toArray) (hr:(storeCells ⟨g,o,Zk⟩ vs 0).run P w= .ok () w0):(storeVar Z7 ⟨g,o,Zk⟩ v).run P w= .ok () w0:=by
  unfold storeVar
  simp [hv,hS w,Result.andThen,hr]
theorem Own.store {vs:List ZQ} {cs':List ZQ} (H:Own w0 D w (blk g cs t::L)) (f:vs.all Value.oneCell'=Zj) (hf:o+X vs<=X cs) (hc:put cs o vs=cs'):
    ∃ w',(storeCells ⟨g,o,Zk⟩ vs 0).run P w= .ok () w'/\Own w0 D w' (blk g cs' t::L):=by
  obtain⟨h,⟨fz,j,l⟩,m⟩:=H.get (i:=0) Z
  have hg:=m g _ j
  refine⟨_,(oD (P:=P) g o t fz vs 0 cs.toArray w hg (by simpa using hf) (by simpa using l.no) (by simpa using f)),H.upd Z Z Z (by simp [World.setRow]) λ r ⟨a,d,p⟩ hk=> ?_⟩
  have hfz:a=fz:=by
    have:=hk g _ d
    rw [hg] at this
    injection this with this
    injection this with _ _ this
    exact this.symm
  subst hfz
  refine⟨λ k=>if k=g then Zv (.cells cs'.toArray t a) else Zk,⟨a,by simp,by rw [<- hc,uw hf]; exact p⟩,λ k o' hk'=> ?_,λ k q b=> ?_⟩
  . by_cases e:k=g
    . subst e
      simp only [if_true,Option.some.injEq] at hk'
      subst hk'
      refine⟨?_, .inl (by rw [d]; exact Option.some_ne_none _)⟩
      rw [setRow_heap w k _ _ t a hg, <- hc]
      simp [put]
    . simp only [e,if_false] at hk'; cases hk'
  . exact setRow_other w g k _ (λ e=>by subst e; rw [d] at b; cases b)
theorem Own.storeRow {vs:List ZQ} {xs':List ZQ} (H:Own w0 D w (row A n c xs t sz::L)) (s:vs.all Value.oneCell'=Zj) (hn:0 < X vs) (hf:o+X vs<=X xs) (hc:put xs o vs=xs'):
    ∃ w',(storeCells ⟨ab A,ao A+o,Zk⟩ vs 0).run P w= .ok () w'/\Own w0 D w' (row A n c xs' t sz::L):=by
  obtain⟨h,⟨hl,hr⟩,u⟩:=H.get (i:=0) Z
  rcases hr with ⟨_,x,_⟩ | ⟨g,cur,fz,rfl,y,m,z,p,B,q⟩
  . rw [hl,x,Nat.zero_mul] at hf; omega
  have hg:=u g _ y
  have hle:n *sz<=cur.size:=by rw [p]; exact o0 _ m
  have hr:=oD (P:=P) g o t fz vs 0 cur w hg (by simp only [Nat.add_zero]; omega) q.no (by simpa using s)
  have C:(⟨ab (Zv (⟨g,0,Zk⟩:Addr)),ao (Zv (⟨g,0,Zk⟩:Addr))+o,Zk⟩:Addr)=⟨g,o,Zk⟩:=by simp [ab,ao]
  rw [C]
  refine⟨_,hr,H.upd Z Z Z (by simp [World.setRow]) λ J ⟨_,E⟩ hk=> ?_⟩
  rcases E with ⟨e,_⟩ | ⟨g',cur',fz',e,f,_,_,_,K,M⟩
  . cases e
  . injection e with e
    injection e with e
    subst e
    have hcc:=hk g _ f
    rw [hg] at hcc
    injection hcc with hcc
    injection hcc with l _ F
    subst l F
    have a:X cur.toList=cur.size:=Array.length_toList
    have hput:X (put cur.toList o vs)=cur.size:=by rw [uw U,a]
    refine⟨λ k=>if k=g then Zv (.cells (Zb (put cur.toList o vs)) t fz) else Zk,⟨by rw [<- hc,uw hf,hl], .inr ⟨g,Zb (put cur.toList o vs),fz,Z,by simp,m,z,by rw [p0,hput,p], ?_,by rw [p0,hput]; exact q⟩⟩,λ k o' hk'=> ?_,λ k G b=> ?_⟩
    . rw [<- hc, <- B]
      simp only [List.toList_toArray,put]
      have hcl:X cur.toList=cur.size:=Array.length_toList
      have hxs:X xs<=X cur.toList:=by rw [hl,hcl]; exact hle
      apply List.ext_getElem?
      intro j
      simp only [m7,List.getElem?_append,m8,o1,o3,o2,hcl]
      have l:min o cur.size=o:=by omega
      have I:min o (min (n *sz) cur.size)=o:=by omega
      rw [l,I]
      by_cases hj:j < n *sz
      . by_cases d:j < o+X vs
        . by_cases r:j < o
          . simp [hj,d,r]
          . simp [hj,d,r]
        . have:o+X vs+(j - (o+X vs)) < n *sz:=by omega
          simp [hj,d,this]
      . have d: ¬ j < o+X vs:=by omega
        have: ¬ o+X vs+(j - (o+X vs)) < n *sz:=by omega
        simp [hj,d,this]
    . by_cases e:k=g
      . subst e
        simp only [if_true,Option.some.injEq] at hk'
        subst hk'
        refine⟨?_, .inl (by rw [f]; exact Option.some_ne_none _)⟩
        rw [setRow_heap w k _ _ t fz hg]
        simp [put]
      . simp only [e,if_false] at hk'; cases hk'
    . exact setRow_other w g k _ (λ e=>by subst e; rw [f] at b; cases b)
end
end
section
open Go.RowKit
section
variable {P:Program} {n:Nat} {F:List (Nat × ZQ)} {w0 w:ZZ} {D:Nat->Prop} {L:List HP} {op:Op} {ty:TypeId} {v:ZQ} {K:ZQ->ZZ->Prop} {x y:Operand} {Z7 t:TypeId} {g o:Nat} {cs cs' xs vs:List ZQ}
theorem J5 {p:Addr} (hx:ev F x=Zv (Zz (Zv p))) (hl:bO P w Z7 p v):Yl P n F w (.load Z7 x) ty v:=λ a ha o' d _=>by
  unfold bO at hl
  unfold execOp
  rw [d]
  simp only [ha.eval hx,Instr.loadAt,Instr.sureAddr,Sem.run_bind,Sem.run_pure,Result.andThen_ok,hl]
theorem LY {p:Addr} {w':ZZ} (hx:ev F x=Zv (Zz (Zv p))) (hy:ev F y=Zv v) (hr:(storeVar Z7 p v).run P w= .ok () w') (hk:K undef w'):Do P n F w (.store Z7 x y) ty K:=λ a ha o' d _ next Q hn=>by
  unfold execOp
  rw [d]
  simp only [ha.eval hx,ha.eval hy,Instr.storeAt,Instr.sureAddr,Sem.run_bind,Sem.run_pure,Result.andThen_ok,hr]
  exact hn _ _ hk
theorem Do.store (H:Own w0 D w (blk g cs t::L)) (hx:ev F x=Zv (Zz (Zv ⟨g,o,Zk⟩))) (hy:ev F y=Zv v) (hS:∀ Z8,(sizeOf Z7).run P Z8= .ok (X vs) Z8) (hv:v.cells=vs.toArray) (d:vs.all Value.oneCell'=Zj) (hf:Nat.ble (o+X vs) (X cs)=Zj) (hc:put cs o vs=cs')
    (h:∀ w',Own w0 D w' (blk g cs' t::L)->K undef w'):Do P n F w (.store Z7 x y) ty K:=by
  obtain⟨w',hr,H'⟩:=H.store (P:=P) d (Nr hf) hc
  exact LY hx hy (Lj hS hv hr) (h w' H')
theorem Do.storeRow {A:Option Addr} {m c sz q:Nat} {xs':List ZQ} (H:Own w0 D w (row A m c xs t sz::L)) (hx:ev F x=Zv (Zz (Zv ⟨ab A,q,Zk⟩))) (hq:q=ao A+o) (hy:ev F y=Zv v) (hS:∀ Z8,(sizeOf Z7).run P Z8= .ok (X vs) Z8) (hv:v.cells=vs.toArray) (d:vs.all Value.oneCell'=Zj)
    (hn:0 < X vs) (hf:o+X vs<=X xs) (hc:put xs o vs=xs') (h:∀ w',Own w0 D w' (row A m c xs' t sz::L)->K undef w'):Do P n F w (.store Z7 x y) ty K:=by
  subst hq
  obtain⟨w',hr,H'⟩:=H.storeRow (P:=P) d hn hf hc
  exact LY hx hy (Lj hS hv hr) (h w' H')
theorem Mm (H:Own w0 D w L) (hk:known F op.operands.toList=Zj) (d:qF op=Zj) (hr:∀ Z8,(execOp (oW F) ⟨Zk,op,ty, "", #[],Zk⟩).run P Z8= .ok (.value (Zz (Zv ⟨Z8.heap.size,0,Zk⟩))) (Z8.alloc (.cells cs.toArray t (0,0))))
    (h:∀ g w',Own w0 D w' (blk g cs t::L)->K (Zz (Zv ⟨g,0,Zk⟩)) w'):Do P n F w op ty K:=λ a ha o f i next Q hn=>by
  have hs:=wz d
  have e:execOp a.eval o=execOp (oW F) o:=execOp_congr o (by rw [f]; exact hs) λ x hx=>uB ha hk x (by rw [f] at hx; simpa using hx)
  have j:execOp (oW F) o=execOp (oW F) ⟨Zk,op,ty, "", #[],Zk⟩:=by
    unfold execOp
    rw [f,i]
  rw [e,j,hr w]
  exact hn _ _ (h _ _ (H.alloc _ ⟨(0,0),by simp,xk.zero _⟩))
theorem KF {sz m:Nat} (H:Own w0 D w L) (hk:known F op.operands.toList=Zj) (d:qF op=Zj) (hr:∀ Z8,(execOp (oW F) ⟨Zk,op,ty, "", #[],Zk⟩).run P Z8= .ok (.value (T (Zv ⟨Z8.heap.size,0,Zk⟩) m m)) (Z8.alloc (.cells cs.toArray t (0,0))))
    (hl:X cs=m *sz) (hm:m<=4294967296) (h:∀ A w',Own w0 D w' (row A m m cs t sz::L)->K (T A m m) w'):Do P n F w op ty K:=λ a ha o f i next Q hn=>by
  have hs:=wz d
  have e:execOp a.eval o=execOp (oW F) o:=execOp_congr o (by rw [f]; exact hs) λ x hx=>uB ha hk x (by rw [f] at hx; simpa using hx)
  have j:execOp (oW F) o=execOp (oW F) ⟨Zk,op,ty, "", #[],Zk⟩:=by
    unfold execOp
    rw [f,i]
  rw [e,j,hr w]
  refine hn _ _ (h _ _ (H.alloc _ ⟨hl, .inr ⟨w.heap.size,cs.toArray,(0,0),rfl,by simp,Nat.le_refl _,by unfold maxLen; omega,by simpa using hl,by rw [<- hl]; simp,xk.zero _⟩⟩))
def Elem (P:Program) (t e size bytes:Nat):Prop:=
  ∃ i z,P.underlying t=some (.slice e)/\P.info? e=some i/\i.zero=some z/\i.size=size/\i.bytes=bytes/\z.cells.size=size/\0 < size
theorem mV {t e size bytes:Nat} {z:Value} (ht:P.underlying t=some (.slice e)) (h:(P.info? e).map (λ i=>(i.zero,i.size,i.bytes))=some (some z,size,bytes)) (hz:z.cells.size=size) (hs:0 < size):Elem P t e size bytes:=by
  obtain⟨i,hi,d,f,j⟩:=info_parts h
  exact⟨i,z,ht,hi,d,f,j,hz,hs⟩
theorem M9 {t e size bytes:Nat} (el:Elem P t e size bytes):∃ i,P.info? e=some i/\i.size=size:=
  let ⟨i,_,_,h,_,h',_⟩:=el
  ⟨i,h,h'⟩
theorem Elem.und {t e size bytes:Nat} (el:Elem P t e size bytes):P.underlying t=some (.slice e):=let ⟨_,_,h,_⟩:=el; h
theorem Elem.pos {t e size bytes:Nat} (el:Elem P t e size bytes):0 < size:=let ⟨_,_,_,_,_,_,_,_,h⟩:=el; h
theorem oH {z:Array ZQ} {n:Nat}:(Builtin.zeroCells z n).size=n *z.size:=by simp [Builtin.zeroCells]
theorem eO {size m c:Nat} {A:Option Addr} {tx e':TypeId} {news:List Value} (hk:P.underlying tx=some (.slice e')) (h:bV w size A m news) (d:∀ u ∈ news,u.oneCell'=true):Src P size tx (.slice A m c) m news w:=by
  rcases Nat.eq_zero_or_pos m with rfl | hm
  . have hn:news= []:=List.eq_nil_of_length_eq_zero (by simpa using h.1)
    subst hn
    rcases A with _ | a
    . exact Src.ofNil w hk c
    . exact Src.ofSlice w hk a 0 c [] i2 i2 i2
  . rw [h.isSome hm]
    refine Src.ofSlice w hk _ m c news h.1 (λ j u hu=> ?_) d
    rw [add0]; exact h.cls hm j u hu
theorem Own.append {A:Option Addr} {k c m e size bytes:Nat} {news:List ZQ} {u:ZQ} {tx:TypeId} (el:Elem P t e size bytes) (H:Own w0 D w (row A k c xs e size::L)) (hs:Src P size tx u m news w) (ty:TypeId)
    (p:k+m<=maxLen) (hgs:∀ old,old < k+m->Builtin.nextslicecap (k+m) old *bytes<=281474976710656):
    ∃ A' c' w',(Builtin.append_ #[t,tx] ty #[T A k c,u]).run P w= .ok (T A' (k+m) c') w'/\Own w0 D w' (row A' (k+m) c' (xs++news) e size::L):=by
  obtain⟨i,z,ht,hi,hz,rfl,rfl,hzs,_⟩:=el
  obtain⟨h,hR,C⟩:=H.get (i:=0) Z
  have hsmall:k+m<=9223372036854775807:=by simp only [maxLen] at p; omega
  have hxl:=hR.1
  have hlen:X (xs++news)=(k+m) *i.size:=by rw [List.length_append,hxl,hs.newsLen,Nat.add_mul]
  have grown:∀ (old:Nat) (R:HP),Own w0 D w (R::L)->Own w0 D (w.drew.alloc (.cells (Zb (xs++news)++Builtin.zeroCells z.cells (grownCap w (k+m) old e - (k+m))) e)) (row (Zv ⟨w.heap.size,0,Zk⟩) (k+m) (grownCap w (k+m) old e) (xs++news) e i.size::L):=by
    intro old R HR
    have hge:=grownCap_ge w (k+m) old e
    have hcm:=grownCap_le_maxLen w (k+m) old e p
    have HL:Own w0 D w.drew L:=by
      have:=HR.drew
      obtain⟨q,s,f,E,G,f3⟩:=this.own
      exact⟨this.os,this.tape,this.output,this.size,this.keep,q,s,λ j=>f (j+1),λ j S hj=>E (j+1) S (by simpa using hj),λ j=>G (j+1),λ a b kk hne=>f3 (a+1) (b+1) kk U⟩
    refine HL.alloc _ ⟨hlen, .inr ⟨w.heap.size,_,(0,0),rfl,by simp; rfl,hge,hcm, ?_, ?_,xk.zero _⟩⟩
    . rw [Array.size_append,oH,hzs,List.size_toArray,hlen, <- Nat.add_mul]
      congr 1
      omega
    . rw [Array.toList_append, <- hlen,List.toList_toArray]
      exact List.take_left
  rcases hR.2 with ⟨rfl,rfl,rfl⟩ | ⟨g,cur,fz,rfl,s,hnc,hcm,hcs,htake,hfz⟩
  . have hx:xs= []:=List.eq_nil_of_length_eq_zero (by simpa using hxl)
    subst hx
    by_cases hm:m=0
    . subst hm
      have hn:=List.eq_nil_of_length_eq_zero (by simpa using hs.newsLen)
      subst hn
      refine⟨Zk,0,w, ?_,H⟩
      have hc:=hs.cells
      rcases hs.kind with ⟨e',hk⟩ | hk <;> simp [Builtin.append_,run_underlying ht,run_underlying hk,sizeOf,typeInfo,hi,hs.len,hc,storeCells]
    . have hr:=run_append_grow_src (P:=P) w t tx ty e i z ht hi hz Zk 0 0 [] (by simp [Builtin.firstCells]) u m news hs U U (hgs 0 U)
      exact⟨_,_,_,hr,grown 0 _ H⟩
  . have hg:=C g _ s
    by_cases hroom:k+m<=c
    . have hfit:k *i.size+X news<=cur.size:=by rw [hs.newsLen,hcs, <- Nat.add_mul]; exact Nat.mul_le_mul_right _ hroom
      have hst:=oD (P:=P) g (k *i.size) e fz news 0 cur w hg (by simpa using hfit) hfz.no hs.one
      simp only [Nat.add_zero] at hst
      have hr:(Builtin.append_ #[t,tx] ty #[.slice (some ⟨g,0,none⟩) k c,u]).run P w= .ok (.slice (some ⟨g,0,none⟩) (k+m) c) (w.setRow g (cur.toList.take (k *i.size)++news++cur.toList.drop (k *i.size+news.length)).toArray):=by
        rcases hs.kind with ⟨e',hk⟩ | hk <;> simp [Builtin.append_,run_underlying ht,run_underlying hk,sizeOf,typeInfo,hi,hs.len,hroom,hs.cells,add0,hst]
      refine⟨_,_,_,hr,H.upd Z Z Z (by simp [World.setRow]) λ Z5 ⟨_,I⟩ hk=> ?_⟩
      rcases I with ⟨d,_⟩ | ⟨g',cur',fz',d,B,_,_,_,Z6,Q⟩
      . cases d
      . injection d with d
        injection d with d
        subst d
        have hcc:=hk g _ B
        rw [hg] at hcc
        injection hcc with hcc
        injection hcc with d _ J
        subst d J
        have hcl:X cur.toList=cur.size:=Array.length_toList
        have hput:X (put cur.toList (k *i.size) news)=cur.size:=by rw [uw U,hcl]
        refine⟨λ q=>if q=g then Zv (.cells (Zb (put cur.toList (k *i.size) news)) e fz) else Zk,⟨hlen, .inr ⟨g,Zb (put cur.toList (k *i.size) news),fz,Z,by simp,hroom,hcm,by rw [List.size_toArray,hput,hcs], ?_,by rw [List.size_toArray,hput]; exact hfz⟩⟩,λ q o' hk'=> ?_,λ q M r=> ?_⟩
        . rw [List.toList_toArray]
          unfold put
          rw [htake, <- hlen]
          exact List.take_left
        . by_cases e:q=g
          . subst e
            simp only [if_true,Option.some.injEq] at hk'
            subst hk'
            refine⟨?_, .inl (by rw [B]; exact Option.some_ne_none _)⟩
            rw [setRow_heap w q _ _ _ fz hg]
            simp [put]
          . simp only [e,if_false] at hk'; cases hk'
        . exact setRow_other w g q _ (λ e=>by subst e; rw [B] at r; cases r)
    . have hR':=H.rds (i:=0) Z
      have hold:(Builtin.firstCells i.size k (T (Zv ⟨g,0,Zk⟩) k c)).run P w.drew= .ok xs.toArray w.drew:=run_firstCells_some w.drew i.size k ⟨g,0,Zk⟩ k c xs hxl (λ j v hj=>by
        have:=hR'.cell hj
        rw [add0]; exact this)
      exact⟨_,_,_,(run_append_grow_src (P:=P) w t tx ty e i z ht hi hz (Zv ⟨g,0,Zk⟩) k c xs hold u m news hs U U (hgs c U)),grown c _ H⟩
theorem Do.append {A:Option Addr} {k c m e size bytes:Nat} {news:List ZQ} {u:ZQ} {tx:TypeId} (el:Elem P t e size bytes) (H:Own w0 D w (row A k c xs e size::L)) (hx:ev F x=Zv (T A k c)) (hy:ev F y=Zv u) (hs:Src P size tx u m news w)
    (d:k+m<=maxLen) (hbytes:(k+m) *bytes<=140737488355328) {s:Nat} {ys:List ZQ} (hsum:k+m=s) (hys:xs++news=ys) (h:∀ A' c' w',Own w0 D w' (row A' s c' ys e size::L)->K (T A' s c') w'):
    Do P n F w (.call ⟨.builtin .append, [x,y].toArray, [t,tx].toArray⟩) ty K:=λ a ha o f i next Q hn=>by
  obtain⟨A',c',w',hr,H'⟩:=H.append (P:=P) el hs o.type d λ _ ho'=>growslice_fits ho' hbytes
  unfold execOp
  rw [f]
  simp only [resolve,invoke,builtin,Sem.run_bind,Sem.run_pure,Result.andThen_ok,List.map_toArray,List.map_cons,List.map_nil,ha.eval hx,ha.eval hy,hr]
  subst hsum hys
  exact hn _ _ (h A' c' w' H')
theorem Own.appendNew {A:Option Addr} {k m e size bytes:Nat} {news:List Value} {u:Value} {tx:TypeId} (el:Elem P t e size bytes) (H:Own w0 D w L) (hr:bV w size A k xs) (hs:Src P size tx u m news w) (hm:0 < m) (ty:TypeId)
    (d:k+m<=maxLen) (hgs:∀ old,old < k+m->Builtin.nextslicecap (k+m) old *bytes<=281474976710656):
    ∃ A' c' w',(Builtin.append_ #[t,tx] ty #[T A k k,u]).run P w= .ok (T A' (k+m) c') w'/\Own w0 D w' (row A' (k+m) c' (xs++news) e size::L):=by
  obtain⟨i,z,ht,hi,hz,rfl,rfl,hzs,_⟩:=el
  have hsmall:k+m<=9223372036854775807:=by simp only [maxLen] at d; omega
  have hlen:X (xs++news)=(k+m) *i.size:=by rw [List.length_append,hr.1,hs.newsLen,Nat.add_mul]
  have hge:=grownCap_ge w (k+m) k e
  have hcm:=grownCap_le_maxLen w (k+m) k e d
  have hold:(Builtin.firstCells i.size k (T A k k)).run P w.drew= .ok xs.toArray w.drew:=by
    rcases A with _ | b
    . have f:k=0:=by
        rcases Nat.eq_zero_or_pos k with e | e
        . exact e
        . have:=hr.isSome e; cases this
      subst f
      have:xs= []:=List.eq_nil_of_length_eq_zero (by simpa using hr.1)
      subst this
      simp [Builtin.firstCells]
    . refine run_firstCells_some w.drew i.size k b k k xs hr.1 λ j v hj=> ?_
      have hk:0 < k:=by
        have:=(List.getElem?_eq_some_iff.1 hj).1
        rcases Nat.eq_zero_or_pos k with e | e
        . rw [hr.1,e,Nat.zero_mul] at this; omega
        . exact e
      have hb:=hr.isSome hk
      injection hb with hb
      rw [hb,add0]; exact hr.cell hj
  have hrun:=run_append_grow_src (P:=P) w t tx ty e i z ht hi hz A k k xs hold u m news hs U U (hgs k U)
  refine⟨_,_,_,hrun,H.drew.alloc _ ⟨hlen, .inr ⟨w.heap.size,_,(0,0),Z,by simp; rfl,hge,hcm, ?_, ?_,xk.zero _⟩⟩⟩
  . rw [Array.size_append,oH,hzs,List.size_toArray,hlen, <- Nat.add_mul]
    congr 1
    omega
  . rw [Array.toList_append, <- hlen,List.toList_toArray]
    exact List.take_left
theorem Do.appendNew {A:Option Addr} {k m e size bytes:Nat} {news:List ZQ} {u:ZQ} {tx:TypeId} (el:Elem P t e size bytes) (H:Own w0 D w L) (hr:bV w size A k xs) (hx:ev F x=Zv (T A k k)) (hy:ev F y=Zv u) (hs:Src P size tx u m news w) (hm:0 < m)
    (d:k+m<=maxLen) (hbytes:(k+m) *bytes<=140737488355328) {s:Nat} {ys:List ZQ} (hsum:k+m=s) (hys:xs++news=ys) (h:∀ A' c' w',Own w0 D w' (row A' s c' ys e size::L)->K (T A' s c') w'):
    Do P n F w (.call ⟨.builtin .append, [x,y].toArray, [t,tx].toArray⟩) ty K:=λ a ha o f i next Q hn=>by
  obtain⟨A',c',w',hr,H'⟩:=H.appendNew (P:=P) el hr hs hm o.type d λ _ ho'=>growslice_fits ho' hbytes
  unfold execOp
  rw [f]
  simp only [resolve,invoke,builtin,Sem.run_bind,Sem.run_pure,Result.andThen_ok,List.map_toArray,List.map_cons,List.map_nil,ha.eval hx,ha.eval hy,hr]
  subst hsum hys
  exact hn _ _ (h A' c' w' H')
theorem Ki {f:FuncId} {args:List Operand} {vals:List ZQ} {tys:Array TypeId} {R:ZQ->ZZ->Prop} (hf:∀ (b:Array ZQ) Z8,(callFunc f b).run P Z8= .ok (.enter f b) Z8) (ha:wS F args=Zv vals) (hc:Calls P f vals.toArray w (dI R))
    (h:∀ v w',R v w'->K v w'):Do P n F w (.call ⟨.value (.func f),args.toArray,tys⟩) ty K:=λ a hag o d i next Q hn=>by
  have e:(execOp a.eval o).run P w= .ok (.enter f vals.toArray) w:=by
    unfold execOp
    rw [d]
    simp [resolve,Act.eval,Deferred.ofValue,invoke,hag.evals ha,hf]
  rw [e,Oper.upon_enter]
  exact hc.mono λ e w' hR=>by
    obtain⟨v,rfl,hk⟩:=hR
    exact hn _ _ (h _ _ hk)
theorem KA {fx:Operand} {f:FuncId} {args:List Operand} {vals:List ZQ} {first cap:Array ZQ} {tys:Array TypeId} {R:ZQ->ZZ->Prop} (hf:∀ (b:Array ZQ) Z8,(callFunc f b).run P Z8= .ok (.enter f b) Z8) (hx:ev F fx=Zv (.func (.func f) first cap)) (ha:wS F args=Zv vals) (hc:Calls P f (first++vals.toArray++cap) w (dI R))
    (h:∀ v w',R v w'->K v w'):Do P n F w (.call ⟨.value fx,args.toArray,tys⟩) ty K:=λ a hag o d i next Q hn=>by
  have e:(execOp a.eval o).run P w= .ok (.enter f (first++vals.toArray++cap)) w:=by
    unfold execOp
    rw [d]
    simp [resolve,hag.eval hx,Deferred.ofValue,invoke,hag.evals ha,hf]
  rw [e,Oper.upon_enter]
  exact hc.mono λ e w' hR=>by
    obtain⟨v,rfl,hk⟩:=hR
    exact hn _ _ (h _ _ hk)
theorem Mi {src dst e:TypeId} {A:Option Addr} {m c:Nat} {l:List UInt8} (hs:P.underlying src=some (.slice e)) (he:P.underlying e=some (.int .u8)) (hd:P.underlying dst=some .string) (hr:bV w 1 A m (l.map λ b=>Value.int .u8 (b.toNat:Int))) (hx:ev F x=some (.slice A m c)):
    Yl P n F w (.convert src dst x) ty (Z9 ⟨l.toArray⟩):=λ a ha o d _=>by
  unfold execOp
  rw [d]
  have hml:X l=m:=by simpa using hr.1
  have:(convert src dst (T A m c)).run P w= .ok (Z9 ⟨l.toArray⟩) w:=by
    rcases A with _ | b
    . have f:m=0:=by
        rcases Nat.eq_zero_or_pos m with e | e
        . exact e
        . have:=hr.isSome e; cases this
      rw [run_convert_bytes_string w src dst e Zk m c hs he hd]
      have hx:l= []:=List.eq_nil_of_length_eq_zero U
      subst hx
      simp [Conv.bytesToString]
      rfl
    . subst hml
      refine run_convert_bytes_back w src dst e b c l hs he hd λ j hj=> ?_
      have hb:=hr.isSome U
      injection hb with hb
      rw [hb,add0]
      exact hr.cell (by rw [List.getElem?_map,List.getElem?_eq_getElem hj]; rfl)
  simp only [ha.eval hx,Sem.run_bind,Sem.run_pure,Result.andThen_ok,this]
end
end
open List renaming append_assoc->q2,drop_length_add_append->q4,flatMap->q1,flatMap_cons->p5,getElem?_cons_succ->p7,getElem?_cons_zero->p4,getElem?_eq_getElem->p3,getElem?_eq_some_iff->p2,take_length_add_append->q3
open Nat renaming add_mul->q0,zero_mul->p6
section
open Go.RowKit
section
variable {P:Program} {n:Nat} {F:List (Nat × ZQ)} {w:ZZ} {ty Z7:TypeId} {x y:Operand} {a b l:List UInt8}
theorem uo (a b:List UInt8):(a==b)=Zw (a=b):=by by_cases h:a=b <;> simp [h]
theorem Lm {op:BinOp} {v u r:ZQ} {yt:TypeId} (hx:ev F x=Zv v) (hy:ev F y=Zv u) (hg:∀ x y,eqGuard op Z7 x y v u=pure ()) (hr:(binOp op Z7 v u).run P w= .ok r w):Yl P n F w (.binOp op Z7 x y yt) ty r:=λ ac ha o d _=>by
  unfold execOp
  rw [d]
  simp only [ha.eval hx,ha.eval hy,hg,Sem.run_bind,Sem.run_pure,Result.andThen_ok,hr]
theorem uy (op:BinOp) (t:TypeId) (s:ByteArray) (v:ZQ) (x y:Operand):eqGuard op t x y (Z9 s) v=pure ():=by cases op <;> rfl
theorem Lb {yt:TypeId} (hx:ev F x=Zv (Z9 ⟨a.toArray⟩)) (hy:ev F y=Zv (Z9 ⟨b.toArray⟩)):Yl P n F w (.binOp .eql Z7 x y yt) ty (Za (a=b)):=
  Lm hx hy (uy _ _ _ _) (by rw [binOp_string_eql,ByteArray.toList_mk,ByteArray.toList_mk,uo]; rfl)
theorem KH {yt:TypeId} (hx:ev F x=Zv (Z9 ⟨a.toArray⟩)) (hy:ev F y=Zv (Z9 ⟨b.toArray⟩)):Yl P n F w (.binOp .neq Z7 x y yt) ty (Za (a≠b)):=
  Lm hx hy (uy _ _ _ _) (by rw [binOp_string_neq,ByteArray.toList_mk,ByteArray.toList_mk,uo]; simp)
theorem LQ {yt:TypeId} (hx:ev F x=Zv (Z9 ⟨a.toArray⟩)) (hy:ev F y=Zv (Z9 ⟨b.toArray⟩)):Yl P n F w (.binOp .lss Z7 x y yt) ty (Y (Op.bytesLess a b)):=
  Lm hx hy (uy _ _ _ _) (by rw [binOp_string_lss,ByteArray.toList_mk,ByteArray.toList_mk]; rfl)
theorem LB {yt:TypeId} (hx:ev F x=Zv (Z9 ⟨a.toArray⟩)) (hy:ev F y=Zv (Z9 ⟨b.toArray⟩)):Yl P n F w (.binOp .leq Z7 x y yt) ty (Y (Op.bytesLess a b || decide (a=b))):=
  Lm hx hy (uy _ _ _ _) (by rw [binOp_string_leq,ByteArray.toList_mk,ByteArray.toList_mk,uo]; rfl)
theorem LC {yt:TypeId} (hx:ev F x=Zv (Z9 ⟨a.toArray⟩)) (hy:ev F y=Zv (Z9 ⟨b.toArray⟩)):Yl P n F w (.binOp .geq Z7 x y yt) ty (Y (!(Op.bytesLess a b))):=
  Lm hx hy (uy _ _ _ _) (by rw [binOp_string_geq,ByteArray.toList_mk,ByteArray.toList_mk]; rfl)
theorem zq (a b:List UInt8):Op.bytesLess a b=Zw (a < b):=by rw [Proofs.bytesLess_eq]
theorem BB (a b:List UInt8):(Op.bytesLess a b || decide (a=b))=Zw (a<=b):=by
  rw [zq]
  by_cases d:a < b
  . have:a<=b:=by grind
    simp [d,this]
  . by_cases f:a=b
    . subst f; have:a<=a:=by grind
      simp [this]
    . have: ¬ a<=b:=by grind
      simp [d,f,this]
theorem BC (a b:List UInt8):(!(Op.bytesLess a b))=Zw (b<=a):=by
  rw [zq]
  by_cases h:a < b
  . have: ¬ b<=a:=by grind
    simp [h,this]
  . have:b<=a:=by grind
    simp [h,this]
theorem Ls {yt:TypeId} (hx:ev F x=Zv (Z9 ⟨a.toArray⟩)) (hy:ev F y=Zv (Z9 ⟨b.toArray⟩)) (hl:X a+X b<=9223372036854775807):Yl P n F w (.binOp .add Z7 x y yt) ty (Z9 ⟨Zb (a++b)⟩):=
  Lm hx hy (uy _ _ _ _) (by
    have d:(⟨a.toArray⟩:ByteArray).size=X a:=by simp [ByteArray.size]
    have f:(⟨b.toArray⟩:ByteArray).size=X b:=by simp [ByteArray.size]
    have:=run_string_add_sum (P:=P) w ⟨a.toArray⟩ ⟨b.toArray⟩ (by rw [d,f]; exact hl)
    have e:(⟨a.toArray⟩++⟨b.toArray⟩:ByteArray)=⟨Zb (a++b)⟩:=by
      apply ByteArray.ext
      rw [ByteArray.data_append]
      simp
    rw [<- e]
    exact this)
theorem Le {k:IntKind} {i:Nat} {c:UInt8} (hu:P.underlying Z7=some .string) (hx:ev F x=some (.string ⟨l.toArray⟩)) (hy:ev F y=some (.int k (i:Int))) (hc:l[i]? =some c):Yl P n F w (.index Z7 x y) ty (.int .u8 (c.toNat:Int)):=λ ac ha o d _=>by
  unfold execOp
  rw [d]
  have hi:=(p2.1 hc).1
  have f:(⟨l.toArray⟩:ByteArray)[i]? =Zv c:=by
    have hs:i < (⟨l.toArray⟩:ByteArray).size:=by simpa [ByteArray.size] using hi
    rw [(getElem?_pos (⟨l.toArray⟩:ByteArray) i hs)]
    rw [p3 hi] at hc
    rw [<- hc]
    rfl
  simp only [ha.eval hx,ha.eval hy,Instr.index,asIntOf,Sem.run_bind,Sem.run_pure,Result.andThen_ok,run_underlying hu]
  rw [if_pos U,Int.toNat_natCast,f]
  rfl
theorem CW (l:List UInt8) (i j:Nat):(⟨l.toArray⟩:ByteArray).extract i j=⟨Zb ((l.take j).drop i)⟩:=by
  apply ByteArray.ext
  apply Array.ext'
  simp [List.extract_eq_take_drop,List.drop_take]
theorem FW (l:List UInt8):(⟨l.toArray⟩:ByteArray).size=X l:=by simp [ByteArray.size]
theorem CX {lo hi mx:Option Value} (hu:P.underlying Z7=some .string):(Instr.sliceAt Z7 (.string ⟨l.toArray⟩) lo hi mx).run P w=(Instr.slice Z7 (.string ⟨l.toArray⟩) lo hi mx).run P w:=by
  simp [Instr.sliceAt,run_underlying hu]
theorem Mc {j:Nat} {k:IntKind} {hx':Operand} (hu:P.underlying Z7=some .string) (hx:ev F x=some (.string ⟨l.toArray⟩)) (hh:ev F hx'=some (.int k (j:Int))) (hj:j<=l.length):
    Yl P n F w (.slice Z7 x none (some hx') none) ty (.string ⟨(l.take j).toArray⟩):=λ ac ha o d _=>by
  unfold execOp
  rw [d]
  have:(Instr.slice Z7 (.string ⟨l.toArray⟩) none (some (.int k (j:Int))) none).run P w= .ok (.string ⟨(l.take j).toArray⟩) w:=by
    simp [Instr.slice,run_underlying hu,Instr.sliceBounds,Instr.sliceBound,asIntOf,FW,Result.andThen]
    rw [ZJ U]
    simp [CW]
  simp only [ha.eval hx,Option.map_some,Option.map_none,ha.eval hh,Sem.run_bind,CX hu,this,Sem.run_pure,Result.andThen_ok]
variable {A:Option Addr} {m c e sz bytes:Nat}
def fA (A:Option Addr) (lo sz c:Nat):Option Addr:=if c=lo then A else A.map (·.add (lo *sz))
theorem EC (A:Option Addr) (sz c:Nat):fA A 0 sz c=A:=by
  unfold fA
  split
  . rfl
  . cases A <;> simp [Addr.add]
theorem ig {lo:Nat} (h:A=Zv ⟨ab A,ao A,Zk⟩) (hlt:lo < c):fA A lo sz c=Zv ⟨ab A,ao A+lo *sz,Zk⟩:=by
  unfold fA
  rw [ZK U,h]
  simp [add0,ab,ao]
theorem bV.cut {lo hi:Nat} {xs:List ZQ} (h:bV w sz A m xs) (d:lo<=hi) (f:hi<=m) (hc:m<=c):bV w sz (fA A lo sz c) (hi - lo) ((xs.drop (lo *sz)).take ((hi - lo) *sz)):=
  h.sub U λ hp=>ig (h.isSome U) U
theorem pQ {t:TypeId} (ht:P.underlying t=some (.slice e)):P.elem t=e:=by simp [Program.elem,ht]
theorem Ec {lo hi mx:Option Value} (hu:P.underlying Z7=some (.slice e)):(Instr.sliceAt Z7 (.slice A m c) lo hi mx).run P w=(Instr.slice Z7 (.slice A m c) lo hi mx).run P w:=by
  simp [Instr.sliceAt,run_underlying hu]
theorem G7 (el:Elem P Z7 e sz bytes) {i j:Nat} {k k':IntKind} (d:i<=j) (f:j<=c):(Instr.slice Z7 (.slice A m c) (some (.int k (i:Int))) (some (.int k' (j:Int))) none).run P w= .ok (.slice (fA A i sz c) (j - i) (c - i)) w:=by
  obtain⟨q,_,ht,hi,_,rfl,_⟩:=el
  have ht':P.underlying Z7=some (.slice (P.elem Z7)):=by rw [pQ ht]; exact ht
  rw [run_slice_lh w Z7 A m c ht' k k' i j U U U]
  simp [pQ ht,sizeOf,typeInfo,hi,Result.andThen,sliced,fA]
theorem CY (el:Elem P Z7 e sz bytes) {i:Nat} {k:IntKind} (d:i<=m):(Instr.slice Z7 (.slice A m c) (some (.int k (i:Int))) none none).run P w= .ok (.slice (fA A i sz c) (m - i) (c - i)) w:=by
  obtain⟨q,_,ht,hi,_,rfl,_⟩:=el
  have ht':P.underlying Z7=some (.slice (P.elem Z7)):=by rw [pQ ht]; exact ht
  rw [run_slice_l w Z7 A m c ht' k i U U]
  simp [pQ ht,sizeOf,typeInfo,hi,Result.andThen,sliced,fA]
theorem ED (el:Elem P Z7 e sz bytes) {j:Nat} {k:IntKind} (d:j<=c):(Instr.slice Z7 (.slice A m c) none (some (.int k (j:Int))) none).run P w= .ok (.slice A j c) w:=by
  obtain⟨q,_,ht,hi,_,rfl,_⟩:=el
  have ht':P.underlying Z7=some (.slice (P.elem Z7)):=by rw [pQ ht]; exact ht
  rw [run_slice_h w Z7 A m c ht' k j U U]
  simp [pQ ht,sizeOf,typeInfo,hi,Result.andThen,sliced]
  cases A <;> simp [Addr.add]
theorem L6 {v:ZQ} {lo hi mx:Option Operand} {lo' hi' mx':Option ZQ} (el:Elem P Z7 e sz bytes) (hx:ev F x=Zv (T A m c)) (hlo:lo.map (ev F)=lo'.map Zv) (hhi:hi.map (ev F)=hi'.map Zv) (hmx:mx.map (ev F)=mx'.map Zv) (hr:(Instr.slice Z7 (T A m c) lo' hi' mx').run P w= .ok v w):
    Yl P n F w (.slice Z7 x lo hi mx) ty v:=λ ac ha o d _=>by
  have key:∀ (a:Option Operand) (b:Option ZQ),a.map (ev F)=b.map Zv->a.map ac.eval=b:=λ a b h=>by
    cases a <;> cases b <;> simp at h ⊢
    exact ha.eval h
  unfold execOp
  rw [d]
  simp only [ha.eval hx,key _ _ hlo,key _ _ hhi,key _ _ hmx,Sem.run_bind,Ec el.und,hr,Sem.run_pure,Result.andThen_ok]
theorem Yl.cut {lx hx':Operand} {i j:Nat} {k k':IntKind} (el:Elem P Z7 e sz bytes) (hx:ev F x=some (.slice A m c)) (hl:ev F lx=some (.int k (i:Int))) (hh:ev F hx'=some (.int k' (j:Int))) (d:i<=j) (f:j<=c):Yl P n F w (.slice Z7 x (some lx) (some hx') none) ty (.slice (fA A i sz c) (j - i) (c - i)):=
  L6 el hx (lo':=some (.int k (i:Int))) (hi':=some (.int k' (j:Int))) (mx':=none) (by simp [hl]) (by simp [hh]) rfl (G7 el d f)
theorem Kv {lx:Operand} {i:Nat} {k:IntKind} (el:Elem P Z7 e sz bytes) (hx:ev F x=some (.slice A m c)) (hl:ev F lx=some (.int k (i:Int))) (d:i<=m):Yl P n F w (.slice Z7 x (some lx) none none) ty (.slice (fA A i sz c) (m - i) (c - i)):=
  L6 el hx (lo':=some (.int k (i:Int))) (hi':=none) (mx':=none) (by simp [hl]) rfl rfl (CY el d)
theorem KN {hx':Operand} {j:Nat} {k:IntKind} (el:Elem P Z7 e sz bytes) (hx:ev F x=some (.slice A m c)) (hh:ev F hx'=some (.int k (j:Int))) (d:j<=c):Yl P n F w (.slice Z7 x none (some hx') none) ty (.slice A j c):=
  L6 el hx (lo':=none) (hi':=some (.int k (j:Int))) (mx':=none) rfl (by simp [hh]) rfl (ED el d)
theorem J9 {i:Nat} {k:IntKind} (el:Elem P Z7 e sz bytes) (hx:ev F x=some (.slice A m c)) (hy:ev F y=some (.int k (i:Int))) (hA:A=some ⟨ab A,ao A,none⟩) (hi:i < m):Yl P n F w (.indexAddr Z7 x y) ty (.pointer (some ⟨ab A,ao A+i *sz,none⟩)):=λ ac ha o d _=>by
  obtain⟨q,_,ht,hq,_,rfl,_⟩:=el
  unfold execOp
  rw [d]
  have ht':P.underlying Z7=some (.slice (P.elem Z7)):=by rw [pQ ht]; exact ht
  have:=run_indexAt_slice (P:=P) w Z7 ⟨ab A,ao A,Zk⟩ m c k i ht'
  simp only [ha.eval hx,ha.eval hy]
  rw [hA]
  simp only [Sem.run_bind,this]
  rw [if_pos U]
  simp [pQ ht,sizeOf,typeInfo,hq,Result.andThen,add0,ab,ao]
theorem KZ {yt:TypeId} {m' c':Nat} (hu:P.underlying Z7=some (.slice e)) (hx:ev F x=some (.slice A m c)) (hy:ev F y=some (.slice none m' c')):Yl P n F w (.binOp .eql Z7 x y yt) ty (.bool A.isNone):=
  Lm hx hy (λ _ _=>rfl) (Lib.run_eql_slice_nil w Z7 e A m c m' c' hu)
end
theorem Ae {α:Type} {enc:α->List ZQ} {sz:Nat} (hz:∀ x,X (enc x)=sz):∀ {ls:List α} {i:Nat} {x:α} {f:Nat} {v:ZQ},ls[i]? =Zv x->(enc x)[f]? =Zv v->(ls.flatMap enc)[i *sz+f]? =Zv v
  | [],_,_,_,_,h,_=>by simp at h
  | y::ls,0,x,f,v,h,hf=>by
    simp only [p4,Option.some.injEq] at h
    subst h
    have:=(p2.1 hf).1
    rw [p5,p6,Nat.zero_add,List.getElem?_append_left this]; exact hf
  | y::ls,i+1,x,f,v,h,hf=>by
    simp only [p7] at h
    have ih:=Ae hz h hf
    rw [p5,List.getElem?_append_right (by rw [hz,q0]; omega),hz,show (i+1) *sz+f - sz=i *sz+f by rw [q0]; omega]
    exact ih
theorem kU {α:Type} {enc:α->List ZQ} {sz:Nat} (hz:∀ x,X (enc x)=sz):∀ (ls:List α),X (ls.flatMap enc)=X ls *sz
  | []=>by simp
  | y::ls=>by rw [p5,List.length_append,hz,kU hz ls,List.length_cons,q0,Nat.one_mul,Nat.add_comm]
theorem mK {α:Type} {ls:List α} {i:Nat} (h:i < X ls):∃ x,ls[i]? =Zv x:=⟨_,p3 h⟩
theorem gQ.elem {α:Type} {w:ZZ} {g o:Nat} {enc:α->List ZQ} {sz:Nat} (hz:∀ x,X (enc x)=sz) {ls:List α} {i:Nat} {x:α} (h:gQ w g o (ls.flatMap enc)) (hx:ls[i]? =Zv x):gQ w g (o+i *sz) (enc x):=
  h.sub λ _ _ hj=>Ae hz hx hj
theorem bV.elem {α:Type} {w:ZZ} {A:Option Addr} {n:Nat} {enc:α->List ZQ} {sz:Nat} (hz:∀ x,X (enc x)=sz) {ls:List α} {i:Nat} {x:α} (h:bV w sz A n (ls.flatMap enc)) (hx:ls[i]? =Zv x) (hp:0 < sz):gQ w (ab A) (ao A+i *sz) (enc x):=by
  have hi:=(p2.1 hx).1
  have hl:=h.1
  rw [kU hz] at hl
  have hn:0 < n:=by
    rcases Nat.eq_zero_or_pos n with e | e
    . rw [e,p6] at hl
      have:X ls *sz≠0:=Nat.mul_ne_zero U U
      omega
    . exact e
  exact(h.cls hn).elem hz hx
theorem bV.len {α:Type} {w:ZZ} {A:Option Addr} {n:Nat} {enc:α->List ZQ} {sz:Nat} (hz:∀ x,X (enc x)=sz) {ls:List α} (h:bV w sz A n (ls.flatMap enc)) (hp:0 < sz):X ls=n:=by
  have hl:=h.1
  rw [kU hz] at hl
  exact Nat.eq_of_mul_eq_mul_right hp hl
theorem bV.addr {w:ZZ} {A:Option Addr} {n sz:Nat} {xs:List ZQ} (h:bV w sz A n xs) {i:Nat} (hi:i < n):A=Zv ⟨ab A,ao A,Zk⟩:=h.isSome U
def eB (b:UInt8):List ZQ:= [.int .u8 (b.toNat:Int)]
theorem BK {α:Type} (f:α->ZQ):∀ l:List α,l.flatMap (λ x=> [f x])=l.map f
  | []=>rfl
  | x::l=>by rw [p5,BK f l]; rfl
theorem Io (l:List UInt8):q1 eB l=l.map λ b=>Value.int .u8 (b.toNat:Int):=BK _ l
theorem cO {α:Type} {enc:α->List ZQ} (h:∀ x, ∀ u ∈ enc x,u.oneCell'=Zj) (ls:List α):∀ u ∈ q1 enc ls,u.oneCell'=Zj:=λ u hu=>by
  obtain⟨x,_,hx⟩:=List.mem_flatMap.1 hu
  exact h x u hx
section
variable {P:Program} {n:Nat} {F:List (Nat × ZQ)} {w0 w:ZZ} {D:Nat->Prop} {L:List HP} {ty:TypeId} {K:ZQ->ZZ->Prop} {x:Operand}
theorem LH {src dst e:TypeId} {A:Option Addr} {m c:Nat} {l:List UInt8} (hs:P.underlying src=some (.slice e)) (he:P.underlying e=some (.int .u8)) (hd:P.underlying dst=some .string) (hr:bV w 1 A m (q1 eB l)) (hx:ev F x=some (.slice A m c)):
    Yl P n F w (.convert src dst x) ty (Z9 ⟨l.toArray⟩):=Mi hs he hd (by rw [<- Io]; exact hr) hx
end
theorem kV {α:Type} {enc:α->List ZQ} {sz:Nat} (hz:∀ x,X (enc x)=sz) {x y:α} {f:Nat} {vs:List ZQ} (hp:put (enc x) f vs=enc y) (hf:f+X vs<=sz):∀ {ls:List α} {i:Nat},ls[i]? =Zv x->put (q1 enc ls) (i *sz+f) vs=q1 enc (ls.set i y)
  | [],_,h=>by simp at h
  | z::ls,0,h=>by
    simp only [p4,Option.some.injEq] at h
    subst h
    have hl:=hz z
    rw [List.set_cons_zero,p5,p5, <- hp,p6,Nat.zero_add]
    unfold put
    rw [List.take_append_of_le_length U,List.drop_append_of_le_length U]
    simp only [q2]
  | z::ls,i+1,h=>by
    simp only [p7] at h
    have ih:=kV hz hp hf h
    have hl:=hz z
    rw [List.set_cons_succ,p5,p5, <- ih]
    have e:(i+1) *sz+f=X (enc z)+(i *sz+f):=by rw [hl,q0]; omega
    rw [e]
    unfold put
    rw [q3,show X (enc z)+(i *sz+f)+X vs=X (enc z)+((i *sz+f)+X vs) by omega,q4]
    simp only [q2]
section
variable {α:Type} {enc:α->List ZQ} {sz:Nat}
theorem uY (hz:∀ x,X (enc x)=sz):∀ (ls:List α) (k:Nat),(q1 enc ls).take (k *sz)=q1 enc (ls.take k)
  | [],k=>by simp
  | x::ls,0=>by simp
  | x::ls,k+1=>by
    rw [List.take_succ_cons,p5,p5, <- uY hz ls k]
    have e:(k+1) *sz=X (enc x)+k *sz:=by rw [hz,q0]; omega
    rw [e,q3]
theorem tY (hz:∀ x,X (enc x)=sz):∀ (ls:List α) (k:Nat),(q1 enc ls).drop (k *sz)=q1 enc (ls.drop k)
  | [],k=>by simp
  | x::ls,0=>by simp
  | x::ls,k+1=>by
    rw [List.drop_succ_cons,p5, <- tY hz ls k]
    have e:(k+1) *sz=X (enc x)+k *sz:=by rw [hz,q0]; omega
    rw [e,q4]
theorem bV.cutE {w:ZZ} {A:Option Addr} {m c lo hi:Nat} {ls:List α} (hz:∀ x,X (enc x)=sz) (h:bV w sz A m (q1 enc ls)) (d:lo<=hi) (f:hi<=m) (hc:m<=c):bV w sz (fA A lo sz c) (hi - lo) (q1 enc (Zf (hi - lo) (Ze lo ls))):=by
  have:=h.cut d f hc
  rw [tY hz,uY hz] at this
  exact this
theorem KP {w:ZZ} {A:Option Addr} {m c lo:Nat} {ls:List α} (hz:∀ x,X (enc x)=sz) (h:bV w sz A m (q1 enc ls)) (d:lo<=m) (hc:m<=c) (hp:0 < sz):bV w sz (fA A lo sz c) (m - lo) (q1 enc (Ze lo ls)):=by
  have:=h.cutE hz d (Nat.le_refl m) hc
  rw [List.take_of_length_le (by rw [List.length_drop,h.len hz hp]; exact Nat.le_refl _)] at this
  exact this
end
end
section
open Go.RowKit
section
variable {w0 w:ZZ} {D:Nat->Prop} {L L1 L2:List HP} {R:HP} {h:Nat->Option Obj}
theorem kT.mono {h':Nat->Option Obj} (H:kT L h) (hs:∀ k o,h k=Zv o->h' k=Zv o):kT L h':=
  let ⟨f,a,b,f3⟩:=H
  ⟨f,a,λ i k o hk=>hs k o (b i k o hk),f3⟩
open Classical in
theorem kT.uncons (H:kT (R::L) h):∃ a b:Nat->Option Obj,R a/\kT L b/\(∀ k o,a k=Zv o->h k=Zv o)/\(∀ k o,b k=Zv o->h k=Zv o)/\∀ k,a k=Zk\/b k=Zk:=by
  obtain⟨f,l,m,f3⟩:=H
  refine⟨f 0,λ k=>if ∃ i,f (i+1) k≠Zk then h k else Zk,l 0 R Z,⟨λ i=>f (i+1),λ i S hi=>l (i+1) S (by simpa using hi),λ i k o hk=> ?_,λ i j k hne=>f3 _ _ k U⟩,m 0,λ k o hk=> ?_,λ k=> ?_⟩
  . show (if ∃ i,f (i+1) k≠Zk then h k else Zk)=Zv o
    have hk':f (i+1) k=Zv o:=hk
    rw [ZJ ⟨i,by rw [hk']; exact Option.some_ne_none _⟩]
    exact m _ k o hk'
  . by_cases e:∃ i,f (i+1) k≠Zk
    . simp only [e,if_true] at hk; exact hk
    . simp only [e,if_false] at hk; cases hk
  . by_cases e:∃ i,f (i+1) k≠Zk
    . obtain⟨i,hi⟩:=e
      rcases f3 0 (i+1) k U with e | e
      . exact .inl e
      . exact absurd e hi
    . exact .inr (by simp only [e,if_false])
theorem kT.cons {a b:Nat->Option Obj} (hR:R a) (H:kT L b) (m:∀ k o,a k=Zv o->h k=Zv o) (q:∀ k o,b k=Zv o->h k=Zv o) (hd:∀ k,a k=Zk\/b k=Zk):kT (R::L) h:=by
  obtain⟨f,s,l,f3⟩:=H
  have key:∀ i k,a k=Zk\/f i k=Zk:=λ i k=>by
    rcases hd k with e | e
    . exact .inl e
    . right
      cases hi:f i k with
      | none=>rfl
      | some o=>rw [l i k o hi] at e; cases e
  refine⟨λ i=>match i with | 0=>a | i+1=>f i,λ i S hi=> ?_,λ i k o hk=> ?_,λ i j k hne=> ?_⟩
  . cases i with
    | zero=>simp only [List.getElem?_cons_zero,Option.some.injEq] at hi; subst hi; exact hR
    | succ i=>simp only [List.getElem?_cons_succ] at hi; exact s i S hi
  . cases i with
    | zero=>exact m k o hk
    | succ i=>exact q k o (l i k o hk)
  . cases i with
    | zero=>
      cases j with
      | zero=>exact absurd Z hne
      | succ j=>exact key j k
    | succ i=>
      cases j with
      | zero=>exact(key i k).symm
      | succ j=>exact f3 i j k U
theorem kT.perm (hp:L1.Perm L2):∀ {h},kT L1 h->kT L2 h:=by
  induction hp with
  | nil=>
    intro h H
    exact H
  | cons R _ ih=>
    intro h H
    obtain⟨i,u,a,b,c,d,e⟩:=H.uncons
    exact kT.cons a (ih b) c d e
  | swap R S L=>
      intro h H
      obtain⟨i,u,a,b,c,d,e⟩:=H.uncons
      obtain⟨z,j,a',b',c',d',e'⟩:=b.uncons
      obtain⟨hr,hq⟩:∃ q:Nat->Option Obj,q=λ k=>match i k with | some o=>Zv o | none=>j k:=⟨_,Z⟩
      have B:∀ k o,i k=Zv o->hr k=Zv o:=λ k o hk=>by rw [hq]; simp only [hk]
      have C:∀ k o,j k=Zv o->hr k=Zv o:=λ k o hk=>by
        rw [hq]
        rcases e k with f | f
        . simp only [f]; exact hk
        . rw [d' k o hk] at f; cases f
      have s:∀ k o,hr k=Zv o->i k=Zv o\/j k=Zv o:=λ k o hk=>by
        rw [hq] at hk
        cases hh:i k with
        | some o'=>simp only [hh] at hk; exact .inl hk
        | none=>simp only [hh] at hk; exact .inr hk
      refine kT.cons a' (kT.cons a b' B C λ k=> ?_) (λ k o hk=>d k o (c' k o hk)) (λ k o hk=> ?_) λ k=> ?_
      . rcases e k with f | f
        . exact .inl f
        . right
          cases hh:j k with
          | none=>rfl
          | some o=>rw [d' k o hh] at f; cases f
      . rcases s k o hk with hk | hk
        . exact c k o hk
        . exact d k o (d' k o hk)
      . cases hh:z k with
        | none=>exact .inl Z
        | some o=>
          right
          cases hh':hr k with
          | none=>rfl
          | some o'=>
            rcases s k o' hh' with hk | hk
            . rcases e k with f | f
              . rw [hk] at f; cases f
              . rw [c' k o hh] at f; cases f
            . rcases e' k with f | f
              . rw [hh] at f; cases f
              . rw [hk] at f; cases f
  | trans _ _ l m=>
    intro h H
    exact m (l H)
theorem kT.nil (h:Nat->Option Obj):kT [] h:=⟨λ _ _=>Zk,λ i S hi=>(by simp at hi),λ _ _ _ hk=>(by cases hk),λ _ _ _ _=> .inl Z⟩
open Classical in
theorem kT.app:∀ {L1:List HP} {h},kT (L1++L2) h↔∃ j l:Nat->Option Obj,kT L1 j/\kT L2 l/\(∀ k o,j k=Zv o->h k=Zv o)/\(∀ k o,l k=Zv o->h k=Zv o)/\∀ k,j k=Zk\/l k=Zk
  | [],h=>⟨λ H=>⟨λ _=>Zk,h,kT.nil _,H,λ _ _ hk=>(by cases hk),λ _ _ hk=>hk,λ _=> .inl Z⟩,fun⟨_,_,_,H,_,s,_⟩=>H.mono s⟩
  | R::L1,h=>by
    constructor
    . intro H
      obtain⟨j,l,a,b,c,d,e⟩:=kT.uncons (show kT (R::(L1++L2)) h from H)
      obtain⟨m,i,I,J,z,E,M⟩:=kT.app.1 b
      obtain⟨hr,hq⟩:∃ q:Nat->Option Obj,q=λ k=>match j k with | some o=>Zv o | none=>m k:=⟨_,Z⟩
      have B:∀ k o,j k=Zv o->hr k=Zv o:=λ k o hk=>by rw [hq]; simp only [hk]
      have C:∀ k o,m k=Zv o->hr k=Zv o:=λ k o hk=>by
        rw [hq]
        rcases e k with f | f
        . simp only [f]; exact hk
        . rw [z k o hk] at f; cases f
      have u:∀ k o,hr k=Zv o->j k=Zv o\/m k=Zv o:=λ k o hk=>by
        rw [hq] at hk
        cases hh:j k with
        | some o'=>simp only [hh] at hk; exact .inl hk
        | none=>simp only [hh] at hk; exact .inr hk
      refine⟨hr,i,kT.cons a I B C λ k=> ?_,J,λ k o hk=> ?_,λ k o hk=>d k o (E k o hk),λ k=> ?_⟩
      . rcases e k with f | f
        . exact .inl f
        . right
          cases hh:m k with
          | none=>rfl
          | some o=>rw [z k o hh] at f; cases f
      . rcases u k o hk with hk | hk
        . exact c k o hk
        . exact d k o (z k o hk)
      . cases hh:i k with
        | none=>exact .inr Z
        | some o=>
          left
          cases hh':hr k with
          | none=>rfl
          | some o'=>
            rcases u k o' hh' with hk | hk
            . rcases e k with f | f
              . rw [hk] at f; cases f
              . rw [E k o hh] at f; cases f
            . rcases M k with f | f
              . rw [hk] at f; cases f
              . rw [hh] at f; cases f
    . rintro ⟨j,l,Z5,Z6,G,Q,hd⟩
      obtain⟨m,i,a,b,c,d,e⟩:=Z5.uncons
      obtain⟨hr,hq⟩:∃ q:Nat->Option Obj,q=λ k=>match i k with | some o=>Zv o | none=>l k:=⟨_,Z⟩
      have B:∀ k o,i k=Zv o->hr k=Zv o:=λ k o hk=>by rw [hq]; simp only [hk]
      have C:∀ k o,l k=Zv o->hr k=Zv o:=λ k o hk=>by
        rw [hq]
        cases hh:i k with
        | none=>simp only [hh]; exact hk
        | some o'=>
          rcases hd k with f | f
          . rw [d k o' hh] at f; cases f
          . rw [hk] at f; cases f
      have u:∀ k o,hr k=Zv o->i k=Zv o\/l k=Zv o:=λ k o hk=>by
        rw [hq] at hk
        cases hh:i k with
        | some o'=>simp only [hh] at hk; exact .inl hk
        | none=>simp only [hh] at hk; exact .inr hk
      refine kT.cons (L:=L1++L2) a (kT.app.2 ⟨i,l,b,Z6,B,C,λ k=> ?_⟩) (λ k o hk=>G k o (c k o hk)) (λ k o hk=> ?_) λ k=> ?_
      . rcases hd k with f | f
        . left
          cases hh:i k with
          | none=>rfl
          | some o=>rw [d k o hh] at f; cases f
        . exact .inr f
      . rcases u k o hk with hk | hk
        . exact G k o (d k o hk)
        . exact Q k o hk
      . cases hh:m k with
        | none=>exact .inl Z
        | some o=>
          right
          cases hh':hr k with
          | none=>rfl
          | some o'=>
            rcases u k o' hh' with hk | hk
            . rcases e k with f | f
              . rw [hh] at f; cases f
              . rw [hk] at f; cases f
            . rcases hd k with f | f
              . rw [c k o hh] at f; cases f
              . rw [hk] at f; cases f
def sepL (L:List HP):HP:=λ h=>kT L h
theorem Own.to (H:Own w0 D w L1) (k:∀ h,kT L1 h->kT L2 h):Own w0 D w L2:=
  let ⟨h,a,b⟩:=H.own
  ⟨H.os,H.tape,H.output,H.size,H.keep,h,a,k h b⟩
theorem Own.perm (H:Own w0 D w L1) (hp:L1.Perm L2):Own w0 D w L2:=H.to λ _ h=>h.perm hp
theorem Own.flat (H:Own w0 D w (sepL L1::L2)):Own w0 D w (L1++L2):=H.to λ h hs=>by
  obtain⟨f,i,a,b,c,d,e⟩:=hs.uncons
  exact kT.app.2 ⟨f,i,a,b,c,d,e⟩
theorem Own.pack (H:Own w0 D w (L1++L2)):Own w0 D w (sepL L1::L2):=H.to λ h hs=>by
  obtain⟨f,i,a,b,c,d,e⟩:=kT.app.1 hs
  exact kT.cons a b c d e
theorem Own.open {α:Type} {S:α->List HP} (H:Own w0 D w (R::L)) (k:∀ h,R h->∃ x,kT (S x) h):∃ x,Own w0 D w (S x++L):=by
  obtain⟨h,i,hs⟩:=H.own
  obtain⟨a,b,c,d,e,f,g⟩:=hs.uncons
  obtain⟨x,hx⟩:=k a c
  exact⟨x,H.os,H.tape,H.output,H.size,H.keep,h,i,kT.app.2 ⟨a,b,hx,d,e,f,g⟩⟩
theorem ML (H:Own w0 D w (L1++L)) (k:∀ h,kT L1 h->R h):Own w0 D w (R::L):=H.to λ h hs=>by
  obtain⟨a,b,c,d,e,f,g⟩:=kT.app.1 hs
  exact kT.cons (k a c) d e f g
theorem Own.sepNil (H:Own w0 D w L):Own w0 D w (sepL []::L):=Own.pack (L1:= []) H
end
section
variable {w:ZZ} {A:Option Addr} {n c sz:Nat} {xs:List ZQ} {t:TypeId} {g:Nat} {cs:List ZQ}
theorem bB (w:ZZ) (h:Nat->Option Obj) (hr:row A n c xs t sz h) (a:∀ k o,h k=Zv o->w.heap[k]? =Zv o):bV w sz A n xs:=by
  obtain⟨hl,hr⟩:=hr
  refine⟨hl,λ hn=> ?_⟩
  rcases hr with ⟨_,f,_⟩ | ⟨g,cur,fz,rfl,b,_,_,_,htk,_⟩
  . omega
  . refine⟨Z,λ j u hj=> ?_⟩
    show w.cell? ⟨g,0+j,Zk⟩=Zv u
    rw [cell_of_row w g (0+j) _ t fz (a g _ b),Nat.zero_add, <- Array.getElem?_toList]
    rw [<- htk,List.getElem?_take] at hj
    split at hj
    . exact hj
    . cases hj
theorem EE (a b:UInt8):IntKind.u8.wrap ((a.toNat:Int)+(b.toNat:Int))=((a+b).toNat:Int):=by
  rw [UInt8.toNat_add]
  have f:=a.toNat_lt
  have i:=b.toNat_lt
  simp [IntKind.wrap,IntKind.signed,IntKind.bits]
theorem dM {α:Type} {enc:α->List ZQ} {ls:List α} {i:Nat} (hz:∀ x,X (enc x)=sz) (hp:0 < sz) (p:bV w sz A n (Zg enc ls)) (hi:i < n):∃ x,ls[i]? =Zv x:=by
  have h:=p.1
  rw [kU hz] at h
  exact⟨_,List.getElem?_eq_getElem (by rw [Nat.eq_of_mul_eq_mul_right hp h]; exact hi)⟩
theorem j3 {α:Type} {enc:α->List ZQ} (hz:∀ x,X (enc x)=sz) {ls:List α} {i f m:Nat} {x:α} (hx:ls[i]? =Zv x) (hf:f+m<=sz):i *sz+f+m<=X (Zg enc ls):=by
  rw [kU hz]
  have:(i+1) *sz<=X ls *sz:=Nat.mul_le_mul_right _ ((List.getElem?_eq_some_iff.1 hx).1)
  rw [Nat.add_mul] at this
  omega
theorem bW (t:TypeId) (sz:Nat):row Zk 0 0 [] t sz λ _=>Zk:=⟨by simp, .inl ⟨Z,Z,Z⟩⟩
theorem di {w0:ZZ} {D:Nat->Prop} {L:List HP} {R:HP} {i:Nat} {φ:ZZ->Prop} (H:Own w0 D w L) (hi:L[i]? =Zv R) (f:∀ w' h,R h->(∀ k o,h k=Zv o->w'.heap[k]? =Zv o)->φ w'):φ w:=
  let ⟨h,a,b⟩:=H.get hi
  f w h a b
theorem G8 {L:List HP} {R:HP} {i:Nat} {φ:ZZ->Prop} (hi:L[i]? =Zv R) (f:∀ w' h,R h->(∀ k o,h k=Zv o->w'.heap[k]? =Zv o)->φ w'):∀ w' h,sepL L h->(∀ k o,h k=Zv o->w'.heap[k]? =Zv o)->φ w':=λ w' h hs a=>
  let ⟨g,b,j,_⟩:=hs
  f w' (g i) (b i R hi) λ k o hk=>a k o (j i k o hk)
end
section
variable {P:Program} {n:Nat} {F:List (Nat × ZQ)} {w0 w:ZZ} {D:Nat->Prop} {L:List HP} {ty Z7:TypeId} {K:ZQ->ZZ->Prop} {x y:Operand} {t e:TypeId} {xs ys news:List ZQ}
theorem vN {sz k m c:Nat} {B:Option Addr} (hr:bV w sz B m news) (hk:k<=m):(Builtin.firstCells sz k (T B m c)).run P w= .ok (Zb (news.take (k *sz))) w:=by
  have hl:X (news.take (k *sz))=k *sz:=by
    rw [List.length_take,hr.1]
    exact Nat.min_eq_left (Nat.mul_le_mul_right _ hk)
  rcases B with _ | b
  . have f:m=0:=by
      rcases Nat.eq_zero_or_pos m with e | e
      . exact e
      . have:=hr.isSome e; cases this
    have a:k=0:=by omega
    subst a
    simp [Builtin.firstCells]
  . refine run_firstCells_some w sz k b m c _ hl λ j v hj=> ?_
    rw [List.getElem?_take] at hj
    split at hj
    . have hm:0 < m:=by
        rcases Nat.eq_zero_or_pos m with e | e
        . rw [hr.1.trans (by rw [e,Nat.zero_mul]) |> List.eq_nil_of_length_eq_zero] at hj; simp at hj
        . exact e
      have hb:=hr.isSome hm
      injection hb with hb
      rw [hb,add0]
      exact hr.cell hj
    . cases hj
theorem Nn {A Ad B:Option Addr} {q c nd cd m cm lo k size bytes:Nat} {tx:TypeId} (el:Elem P t e size bytes) (H:Own w0 D w (row A q c xs e size::L)) (hx:ev F x=Zv (T Ad nd cd)) (hA:0 < nd->Ad=Zv ⟨ab A,ao A+lo *size,Zk⟩) (hfit:lo+nd<=q)
    (hy:ev F y=Zv (T B m cm)) (hr:bV w size B m news) (l:∀ u ∈ news,u.oneCell'=Zj) (hk:min m nd=k) (hys:put xs (lo *size) (news.take (k *size))=ys) (h:∀ w',Own w0 D w' (row A q c ys e size::L)->K (.int .i64 (k:Int)) w'):
    Do P n F w (.call ⟨.builtin .copy, [x,y].toArray, [t,tx].toArray⟩) ty K:=λ a ha o s C next Q hn=>by
  obtain⟨i,z,ht,hi,hz,rfl,rfl,hzs,hsz⟩:=el
  have hfc:=vN (P:=P) (k:=k) (c:=cm) hr U
  have hlen:X (news.take (k *i.size))=k *i.size:=by
    rw [List.length_take,hr.1]
    exact Nat.min_eq_left (Nat.mul_le_mul_right _ U)
  have key:∃ w',(match Ad with | some a=>storeCells a (news.take (k *i.size)) 0 | none=>pure ()).run P w= .ok () w'/\Own w0 D w' (row A q c ys e i.size::L):=by
    rcases Nat.eq_zero_or_pos k with f | f
    . subst f
      have j:news.take (0 *i.size)= []:=by simp
      rw [j] at hys ⊢
      have:ys=xs:=by rw [<- hys]; simp [put]
      subst this
      refine⟨w, ?_,H⟩
      cases Ad <;> rfl
    . have hnd:0 < nd:=by omega
      have hAd:=hA hnd
      subst hAd
      have hpos:0 < X (news.take (k *i.size)):=by rw [hlen]; exact Nat.mul_pos f hsz
      exact H.storeRow (P:=P) (by rw [List.all_eq_true]; exact λ u hu=>l u (List.mem_of_mem_take hu)) hpos (by
        rw [hlen,(H.rowLe (i:=0) Z).2.2, <- Nat.add_mul]
        exact Nat.mul_le_mul_right _ U) hys
  obtain⟨w',hst,H'⟩:=key
  unfold execOp
  rw [s]
  have hrun:(Builtin.copy_ #[t,tx] o.type #[T Ad nd cd, T B m cm]).run P w= .ok (.int .i64 (k:Int)) w':=by
    simp only [Builtin.copy_,List.getElem?_toArray,List.getElem?_cons_zero,List.getElem?_cons_succ,Sem.run_bind,run_underlying ht,Result.andThen_ok,Builtin.lenOf,Sem.run_pure,sizeOf,typeInfo]
    simp [hi,hk,hfc,Result.andThen]
    cases Ad with
    | none=>
      simp only [Sem.run_pure] at hst
      injection hst with _ hw
      subst hw
      rfl
    | some b=>
      simp only at hst
      simp [hst,Result.andThen,goInt]
  simp only [resolve,invoke,builtin,Sem.run_bind,Sem.run_pure,Result.andThen_ok,List.map_toArray,List.map_cons,List.map_nil,ha.eval hx,ha.eval hy,hrun]
  exact hn _ _ (h w' H')
end
theorem Own.rowTake {w0 w:ZZ} {D:Nat->Prop} {L:List HP} {A:Option Addr} {n k c sz:Nat} {xs ys:List ZQ} {t:TypeId} (H:Own w0 D w (row A n c xs t sz::L)) (hk:k<=n) (hys:xs.take (k *sz)=ys):Own w0 D w (row A k c ys t sz::L):=
  H.imp λ h ⟨hl,hr⟩=>by
    have e:k *sz<=n *sz:=Nat.mul_le_mul_right _ hk
    refine⟨by rw [<- hys,List.length_take,hl]; omega, ?_⟩
    rcases hr with ⟨a,b,c⟩ | ⟨g,cur,fz,a,b,c,d,e',f,g'⟩
    . exact .inl ⟨a,U,c⟩
    . exact .inr ⟨g,cur,fz,a,b,U,d,e',by rw [<- hys, <- f,List.take_take,Nat.min_eq_left e],g'⟩
theorem Na {w0 w:ZZ} {D:Nat->Prop} {L:List HP} {R:HP} (H:Own w0 D w (R::L)):Own w0 D w L:=H.to λ h hs=>by
  obtain⟨_,a,_,b,_,d,_⟩:=hs.uncons
  exact b.mono d
def Ip {ι:Type} (φ:ι->Prop) (S:ι->List HP):HP:=λ h=> ∃ i,φ i/\kT (S i) h
theorem LV {w0 w:ZZ} {D:Nat->Prop} {L:List HP} {ι:Type} {φ:ι->Prop} {S:ι->List HP} (H:Own w0 D w (Ip φ S::L)):∃ i,φ i/\Own w0 D w (S i++L):=by
  obtain⟨i,hi⟩:=H.open (S:=λ i: { i // φ i } =>S i.1) λ h ⟨i,a,b⟩=>⟨⟨i,a⟩,b⟩
  exact⟨i.1,i.2,hi⟩
theorem LD {w0 w:ZZ} {D:Nat->Prop} {L:List HP} {ι:Type} {φ:ι->Prop} {S:ι->List HP} (i:ι) (h:φ i) (H:Own w0 D w (S i++L)):Own w0 D w (Ip φ S::L):=
  ML (L1:=S i) H λ _ hs=>⟨i,h,hs⟩
end
open List renaming getElem?_map->r7,length_cons->q6,length_map->r5,mem_append_left->q7
section
open Go.RowKit Go.ChangeShapes Go.WideShapes Go.Deep
theorem Dr {α:Type} {Q:Nat->α->Prop}:∀ n,(∀ i,i < n->∃ o,Q i o)->∃ os:List α,X os=n/\∀ i o,os[i]? =Zv o->Q i o
  | 0,_=>⟨[],Z,λ i o h=>by simp at h⟩
  | n+1,h=>by
    obtain⟨os,hl,hq⟩:=Dr n λ i hi=>h i U
    obtain⟨o,ho⟩:=h n U
    refine⟨os++ [o],by simp [hl],λ i p hp=> ?_⟩
    by_cases e:i < n
    . rw [List.getElem?_append_left U] at hp
      exact hq i p hp
    . rw [List.getElem?_append_right U] at hp
      obtain⟨hk,rfl⟩:=p2.1 hp
      simp at hk
      have:i=n:=by omega
      subst this
      simpa using ho
abbrev Bk (α:Type):=HShiftLeft α Unit Nat
abbrev bk {α:Type} [Bk α] (x:α):Nat:=HShiftLeft.hShiftLeft x ()
instance:Bk Nat:=⟨λ _ _=>1⟩
instance:Bk Int:=⟨λ _ _=>1⟩
instance:Bk Bool:=⟨λ _ _=>1⟩
instance:Bk UInt8:=⟨λ _ _=>1⟩
instance:Bk (List UInt8):=⟨λ s _=>X s+1⟩
instance:Bk Unit:=⟨λ _ _=>0⟩
instance {α β:Type} [Bk α] [Bk β]:Bk (α × β):=⟨λ p _=>bk p.1+bk p.2⟩
theorem uC {H:Type} (d:DataW H):1<=Rows.uptoBulk d:=by
  cases d with
  | lit l=>cases l <;> simp [Rows.uptoBulk]
  | nil=>simp [Rows.uptoBulk]
  | ptr d=>simp [Rows.uptoBulk]
  | slice elems spare=>simp [Rows.uptoBulk]
  | agg parts=>simp [Rows.uptoBulk]
  | iface t d=>simp [Rows.uptoBulk]
  | map entries=>simp [Rows.uptoBulk]
  | held h=>simp [Rows.uptoBulk]
theorem BL {H:Type}:∀ l:List (DataW H),X l<=Rows.uptoBulkAll l
  | []=>by simp [Rows.uptoBulkAll]
  | x::r=>by
    have:=uC x
    have:=BL r
    simp only [Rows.uptoBulkAll,q6]
    omega
theorem BN {α H:Type} [Bk α]:∀ (os:List α) (D:Nat->DataW H),(∀ i o,os[i]? =Zv o->bk o<=Rows.uptoBulk (D i))->(os.map bk).sum<=Rows.uptoBulkAll ((List.range (X os)).map D)
  | [],_,_=>Nt _
  | o::r,D,h=>by
    have a:=h 0 o Z
    have:=BN r (λ i=>D (i+1)) λ i p hp=>h (i+1) p (by rw [List.getElem?_cons_succ]; exact hp)
    rw [q6,List.range_succ_eq_map]
    simp only [List.map_cons,List.map_map,List.sum_cons,Rows.uptoBulkAll]
    exact Nat.add_le_add a this
def lJ {α:Type} [Bk α] (P:Program) (w:ZZ) (t:TypeId) (sz:Nat) (enc:α->List ZQ) (Ok:α->Prop):Prop:=
  P.cellsOf t=sz/\(∀ x,X (enc x)=sz)/\∀ (H:Type) (e:TypeId × ZQ->H) (held:Bool) (fuel:Nat) (cs:List ZQ) (x:DataW H × List MemPlace),
    DataW.trod e P w 0 (λ _=>Zj) held fuel t cs=Zv x->(∀ m ∈ x.1.weights P t,m<=140737488351232)->∃ o,cs=enc o/\Ok o/\bk o<=Rows.uptoBulk x.1
structure Sv (β:Type) where q::
  A:Option Addr
  c:Nat
  a:List β
instance {β:Type} [Bk β]:Bk (Sv β):=⟨λ s _=>(s.a.map bk).sum+(s.c - X s.a)+1⟩
def Md {β:Type} (s:Sv β):List ZQ:= [T s.A (X s.a) s.c]
def nK {β:Type} (w:ZZ) (sz bytes:Nat) (enc:β->List ZQ) (Ok:β->Prop) (s:Sv β):Prop:=
  X s.a<=s.c/\s.c *bytes<=140737488351232/\bV w sz s.A (X s.a) (Zg enc s.a)/\∀ y ∈ s.a,Ok y
def eI (k:IntKind) (n:Int):List ZQ:= [.int k n]
def eN (k:IntKind) (n:Nat):List ZQ:= [.int k (n:Int)]
def eL (b:Bool):List ZQ:= [Y b]
def eS (s:List UInt8):List ZQ:= [Z9 ⟨List.toArray s⟩]
theorem xm {k:IntKind}:∀ x,X (eI k x)=1:=λ _=>rfl
theorem iQ {k:IntKind}:∀ x,X (eN k x)=1:=λ _=>rfl
theorem Iq:∀ x,X (eL x)=1:=λ _=>rfl
theorem Ir:∀ x,X (eS x)=1:=λ _=>rfl
theorem Iu {v:ZQ} (h:v.oneCell'=Zj):∀ u ∈ [v],u.oneCell'=Zj:=λ u hu=>by rw [List.mem_singleton.1 hu]; exact h
theorem nu {k:IntKind}:∀ x, ∀ u ∈ eN k x,u.oneCell'=Zj:=λ _=>Iu Z
section
variable {P:Program} {w:ZZ} {t e:TypeId}
theorem Dt {k:IntKind} {n:Int} (h:(Lit.int k n).wf=Zj):k.min<=n/\n<=k.max:=by
  simpa [Lit.wf] using h
theorem og {k:IntKind} {lo hi:Int} (hu:P.underlying t=Zv (.int k)) (hc:P.cellsOf t=1) (a:k.min=lo) (b:k.max=hi):lJ P w t 1 (eI k) λ n=>lo<=n/\n<=hi:=
  ⟨hc,xm,λ H e held fuel cs x h _=>by
    obtain⟨n,rfl,_,hw⟩:=DataW.trod_int hu h
    subst a b
    exact⟨n,Z,Dt hw,uC _⟩⟩
theorem oh {k:IntKind} {hi:Nat} (hu:P.underlying t=Zv (.int k)) (hc:P.cellsOf t=1) (a:k.min=0) (b:k.max=(hi:Int)):lJ P w t 1 (eN k) λ n=>n<=hi:=
  ⟨hc,iQ,λ H e held fuel cs x h _=>by
    obtain⟨n,rfl,_,hw⟩:=DataW.trod_int hu h
    have:=Dt hw
    rw [a,b] at this
    refine⟨n.toNat, ?_,U,uC _⟩
    unfold eN
    rw [show (n.toNat:Int)=n by omega]⟩
theorem wB (hu:P.underlying t=some .bool) (hc:P.cellsOf t=1):lJ P w t 1 eL λ _=>True:=
  ⟨hc,Iq,λ H e held fuel cs x h _=>by
    obtain⟨b,rfl,_⟩:=DataW.trod_bool hu h
    exact⟨b,Z,ZV,uC _⟩⟩
theorem lL (hu:P.underlying t=some .string) (hc:P.cellsOf t=1):lJ P w t 1 eS λ s=>X s<=140737488351232:=
  ⟨hc,Ir,λ H e held fuel cs x h hs=>by
    obtain⟨s,rfl,hx,_⟩:=DataW.trod_string hu h
    refine⟨s.data.toList, ?_,hs _ (by rw [hx]; simp [DataW.weights]),by rw [hx]; exact Nat.le_of_eq Z⟩
    simp [eS]⟩
theorem vO {H:Type} {d:DataW H} {m:Nat}:∀ {ds:List (DataW H)},d ∈ ds->m ∈ d.weights P e->m ∈ DataW.weightsAll P e ds
  | [],h,_=>by cases h
  | x::r,h,hm=>by
    unfold DataW.weightsAll
    rcases List.mem_cons.1 h with rfl | h
    . exact q7 _ hm
    . exact List.mem_append_right _ (vO h hm)
theorem pR {β:Type} [Bk β] {sz bytes:Nat} {enc:β->List Value} {Ok:β->Prop} (hu:P.underlying t=some (.slice e)) (hc:P.cellsOf t=1) (hb:P.bytesOf e=bytes) (hz:0 < sz) (he:lJ P w e sz enc Ok):lJ P w t 1 Md (nK w sz bytes enc Ok):=
  ⟨hc,λ _=>rfl,λ H e' held fuel cs x h hs=>by
    obtain⟨hC,hE,hop⟩:=he
    rcases open_slice hu h with ⟨rfl,_⟩ | ⟨a,len,cap,m,n,D,Pl,rfl,_,hl,hm,hmm,hx,hi⟩
    . exact⟨⟨none,0, []⟩,rfl,⟨Nat.le_refl _,by simp,bV.nil _ _ _,λ y hy=>by cases hy⟩,uC _⟩
    . have hmm:m=cap:=by rw [hmm]; simp
      subst hmm
      rw [hx] at hs
      have l:m *bytes<=140737488351232:=by
        have:=hs ((len+(m - len)) *P.bytesOf e) (by simp [DataW.weights,hu])
        rw [hb,show len+(m - len)=m by omega] at this
        exact this
      have q:∀ i,i < len->∀ k ∈ (D i).weights P e,k<=140737488351232:=λ i hil k hk=>by
        refine hs k ?_
        simp only [DataW.weights,hu]
        refine List.mem_cons_of_mem _ (q7 _ (vO (d:=D i) ?_ hk))
        rw [List.mem_map]
        exact⟨i,List.mem_range.2 hil,Z⟩
      have each:∀ i,i < len->∃ o:β,w.cells? 0 (a.add (i *sz)) sz=Zv (enc o)/\Ok o/\bk o<=Rows.uptoBulk (D i):=λ i hil=>by
        obtain⟨_,hcc,ht⟩:=hi i U
        rw [hC] at hcc
        obtain⟨o,rfl,ho⟩:=hop _ _ _ _ _ _ ht (q i hil)
        exact⟨o,hcc,ho⟩
      obtain⟨os,hol,hos⟩:=Dr len each
      obtain⟨b,off,spot⟩:=a
      subst hol
      refine⟨⟨Zv ⟨b,off,spot⟩,m,os⟩,Z,⟨hl,l,⟨kU hE os,λ hn=> ?_⟩,λ y hy=> ?_⟩, ?_⟩
      . have hsp:spot=Zk:=by
          obtain⟨C,E,_⟩:=each 0 hn
          obtain⟨_,_,hat⟩:=World.cells?_some E
          have f:=hat 0 hz
          rw [Nat.zero_mul] at f
          have G:(Addr.add (Addr.add ⟨b,off,spot⟩ 0) 0)=⟨b,off,spot⟩:=by simp [Addr.add]
          rw [G] at f
          have hex:∃ v,(enc C)[0]? =Zv v:=⟨_,p3 (by rw [hE]; exact hz)⟩
          obtain⟨v,hv⟩:=hex
          rw [hv] at f
          exact World.cell?_spot f
        subst hsp
        refine⟨Z,λ j u hj=> ?_⟩
        have hjl:=(p2.1 hj).1
        rw [kU hE] at hjl
        have hd:=Nat.div_lt_of_lt_mul (by rw [Nat.mul_comm]; exact hjl)
        have hr:j % sz < sz:=Nat.mod_lt _ hz
        have ej:j=j / sz *sz+j % sz:=by rw [Nat.mul_comm]; exact(Nat.div_add_mod j sz).symm
        have hv:(enc os[j / sz])[j % sz]? =Zv ((enc os[j / sz])[j % sz]'(by rw [hE]; exact hr)):=p3 _
        have hfl:=Ae (enc:=enc) hE (p3 hd) hv
        rw [<- ej,hj] at hfl
        injection hfl with hfl
        obtain⟨_,_,hat⟩:=World.cells?_some (hos (j / sz) _ (p3 hd)).1
        have s:=hat (j % sz) hr
        rw [Go.Deep.add_add,hv, <- ej] at s
        rw [hfl]
        show w.cell? ⟨b,off+j,Zk⟩=_
        rw [<- s,add0]
      . obtain⟨i,z,B⟩:=List.getElem_of_mem hy
        exact(hos i y (by rw [p3 z,B])).2.1
      . rw [hx]
        have s:=BN os D λ i o h=>(hos i o h).2.2
        have I:=BL (H:=H) ((List.range (m - X os)).map λ i=>D (X os+i))
        rw [r5,List.length_range] at I
        show (os.map bk).sum+(m - os.length)+1<=Rows.uptoBulk (.slice _ _)
        simp only [Rows.uptoBulk]
        omega⟩
def gH {α:Type} [Bk α] (P:Program) (w:ZZ) (fs:Array Field) (i off sz:Nat) (enc:α->List ZQ) (Ok:α->Prop):Prop:=
  (∀ x,X (enc x)=sz)/\∀ (H:Type) (e:TypeId × ZQ->H) (held:Bool) (n:Nat) (cs:List ZQ) (ys:List (DataW H × List MemPlace)),
    (∀ (j:Nat) (f:Field),fs[j]? =Zv f->DataW.trod e P w 0 (λ _=>Zj) held n f.type ((cs.drop f.offset).take (P.cellsOf f.type))=ys[j]?)->X ys=fs.size->
    (∀ (j:Nat) (f:Field) y,fs[j]? =Zv f->ys[j]? =Zv y->∀ m ∈ y.1.weights P f.type,m<=140737488351232)->X cs=off+sz->∃ o,cs.drop off=enc o/\Ok o/\bk o<=Rows.uptoBulkAll ((ys.map (·.1)).drop i)
theorem gH.nil {fs:Array Field} {i off:Nat}:gH P w fs i off 0 (λ _:Unit=> []) λ _=>True:=
  ⟨λ _=>rfl,λ H e held n cs ys _ _ _ hl=>⟨(),by rw [List.drop_eq_nil_of_le U],ZV,Nt _⟩⟩
theorem gH.cons {α β:Type} [Bk α] [Bk β] {fs:Array Field} {i off s sz:Nat} {enc:α->List ZQ} {Ok:α->Prop} {enc':β->List ZQ} {Ok':β->Prop} {f:Field} (hf:fs[i]? =Zv f) (ho:f.offset=off) (a:lJ P w f.type s enc Ok)
    (k:gH P w fs (i+1) (off+s) sz enc' Ok'):gH P w fs i off (s+sz) (λ p:α × β=>enc p.1++enc' p.2) λ p=>Ok p.1/\Ok' p.2:=
  ⟨λ x=>by rw [List.length_append,a.2.1,k.1],λ H e held n cs ys ht hy hw hl=>by
    obtain⟨b,l,k2,m⟩:=k.2 H e held n cs ys ht hy hw U
    have hi:i < fs.size:=by
      rcases Nat.lt_or_ge i fs.size with h | h
      . exact h
      . rw [Array.getElem?_eq_none h] at hf; cases hf
    have hyi:ys[i]? =Zv (ys[i]'(by rw [hy]; exact hi)):=p3 _
    have hti:=ht i f hf
    rw [hyi,ho,a.1] at hti
    obtain⟨j,o,q,u⟩:=a.2.2 H e held n _ _ hti (hw i f _ hf hyi)
    refine⟨(j,b), ?_,⟨q,k2⟩, ?_⟩
    rotate_left
    . have hi':i < X (ys.map (·.1)):=by rw [r5,hy]; exact hi
      rw [List.drop_eq_getElem_cons hi',List.getElem_map]
      show bk j+bk b<=_
      simp only [Rows.uptoBulkAll]
      exact Nat.add_le_add u m
    show Ze off cs=enc j++enc' b
    rw [<- o, <- l, <- List.drop_drop,List.take_append_drop]⟩
theorem nL {α:Type} [Bk α] {fs:Array Field} {sz:Nat} {enc:α->List ZQ} {Ok:α->Prop} (hu:P.underlying t=Zv (.struct fs)) (hc:P.cellsOf t=sz) (h:gH P w fs 0 0 sz enc Ok):lJ P w t sz enc Ok:=
  ⟨hc,h.1,λ H e held fuel cs x hx hs=>by
    obtain⟨ys,n,_,rfl,hl,hy,ht⟩:=DataW.trod_struct hu hx
    have hw:∀ (j:Nat) (f:Field) y,fs[j]? =Zv f->ys[j]? =Zv y->∀ m ∈ y.1.weights P f.type,m<=140737488351232:=λ j f y hj hyj m hm=>by
      refine hs m ?_
      simp only [DataW.weights,hu]
      exact DataW.weights_mem_each (j:=j) (by rw [r7,Array.getElem?_toList,hj]; rfl) (by rw [r7,hyj]; rfl) m hm
    obtain⟨o,a,b,i⟩:=h.2 H e held n cs ys ht hy hw (by rw [hl,hc,Nat.zero_add])
    refine⟨o,by rw [<- a,List.drop_zero],b, ?_⟩
    rw [List.drop_zero] at i
    show bk o<=Rows.uptoBulk (.agg _)
    simp only [Rows.uptoBulk]
    omega⟩
theorem lJ.map {α β:Type} [Bk α] [Bk β] {sz:Nat} {enc:α->List ZQ} {Ok:α->Prop} {enc':β->List ZQ} {Ok':β->Prop} (h:lJ P w t sz enc Ok) (g:α->β) (hl:∀ x,X (enc' x)=sz) (he:∀ o,enc o=enc' (g o)) (hk:∀ o,Ok o->Ok' (g o)) (hb:∀ o,bk (g o)<=bk o):lJ P w t sz enc' Ok':=
  ⟨h.1,hl,λ H e held fuel cs x hx hs=>by
    obtain⟨o,rfl,k,b⟩:=h.2.2 H e held fuel cs x hx hs
    exact⟨g o,he o,hk o k,Nat.le_trans (hb o) b⟩⟩
variable {α:Type} [Bk α] {sz:Nat} {enc:α->List ZQ} {Ok:α->Prop} {H:Type} {en:TypeId × ZQ->H} {held:Bool} {v:ZQ} {d:DataW H} {p:List MemPlace} {r:Reach} {b0:Nat}
theorem lJ.one (h:lJ P w t sz enc Ok) (hd:DataW.Trod en P w 0 (λ _=>Zj) held t v d p) (hs:∀ m ∈ d.weights P t,m<=140737488351232):∃ o,v.cells.toList=enc o/\Ok o/\bk o<=Rows.uptoBulk d:=by
  obtain⟨fuel,hf⟩:=hd
  exact h.2.2 H en held fuel _ _ hf hs
theorem lJ.arg1 (h:lJ P w t 1 enc Ok) (hd:DataW.Trod en P w 0 (λ _=>Zj) held t v d p) (hs:∀ m ∈ d.weights P t,m<=140737488351232) (hv:v.cells= #[v]):∃ o,enc o= [v]/\Ok o/\bk o<=Rows.uptoBulk d:=by
  obtain⟨o,e,k⟩:=h.one hd hs
  exact⟨o,by rw [<- e,hv],k⟩
theorem lJ.argSlice (h:lJ P w t 1 enc Ok) (hu:P.underlying t=some (.slice e)) (hv:Value.okWide P w r b0 t v) (hd:DataW.Trod en P w 0 (λ _=>true) held t v d p) (hs:∀ m ∈ d.weights P t,m<=140737488351232):∃ o,enc o= [v]/\Ok o/\bk o<=Rows.uptoBulk d:=by
  obtain⟨_,_,_,rfl⟩:=okWide_slice hu hv
  exact h.arg1 hd hs Z
theorem BO {ts:List TypeId} {ds:List (DataW H)} (h:(DataW.weightsEach P ts ds).all (· <=reachBytes)=Zj) {j:Nat} (ht:ts[j]? =Zv t) (hd:ds[j]? =Zv d):∀ m ∈ d.weights P t,m<=140737488351232:=λ m hm=>by
  have:=List.all_eq_true.1 h _ (DataW.weights_mem_each ht hd m hm)
  exact of_decide_eq_true this
end
end
section
open Go.RowKit
def fK (P:Program) (k:Nat) (t:TypeId) (x y:ZQ) (b:Bool):Prop:=∀ (d:Nat) (w:ZZ),(Op.equalIn (d+k) t x y).run P w= .ok b w
def eH (P:Program) (k:Nat) (xs ys:Array ZQ) (fs:List Field) (b:Bool):Prop:=∀ (d:Nat) (w:ZZ),(Op.eqFields (d+k) xs ys fs).run P w= .ok b w
section
variable {P:Program} {k:Nat} {t:TypeId} {x y:ZQ} {xs ys:Array ZQ} {fs:List Field} {f:Field} {p q:Prop} [Decidable p] [Decidable q]
theorem fK.up {j:Nat} {b:Bool} (h:fK P k t x y b) (hj:k<=j):fK P j t x y b:=λ d w=>by
  have:=h (d+(j - k)) w
  rwa [show d+(j - k)+k=d+j by omega] at this
theorem eH.up {j:Nat} {b:Bool} (h:eH P k xs ys fs b) (hj:k<=j):eH P j xs ys fs b:=λ d w=>by
  have:=h (d+(j - k)) w
  rwa [show d+(j - k)+k=d+j by omega] at this
theorem fK.int {ki ki':IntKind} {a b:Int} (h:P.underlying t=Zv (.int ki')):fK P 1 t (.int ki a) (.int ki b) (Zw (a=b)):=λ d w=>by
  rw [run_equalIn_int w d t ki ki' a b h]; first | done | rfl
theorem fK.bool {a b:Bool} (h:P.underlying t=some .bool):fK P 1 t (.bool a) (.bool b) (decide (a=b)):=λ d w=>by
  rw [run_equalIn_bool' w d t a b h]; cases a <;> cases b <;> rfl
theorem fK.string {a b:List UInt8} (h:P.underlying t=some .string):fK P 1 t (.string ⟨a.toArray⟩) (.string ⟨b.toArray⟩) (decide (a=b)):=λ d w=>by
  rw [run_equalIn_string w d t _ _ h,ByteArray.toList_mk,ByteArray.toList_mk,uo]
theorem eH.nil:eH P 0 xs ys [] Zj:=λ d w=>rfl
theorem eH.cons {u v:ZQ} {a b:Bool} (hn:Zw (f.name= "_")=O) (hu:∀ w,(part f.type xs f.offset).run P w= .ok u w) (hv:∀ w,(part f.type ys f.offset).run P w= .ok v w) (he:fK P k f.type u v a) (hr:eH P k xs ys fs b):eH P k xs ys (f::fs) (a && b):=λ d w=>by
  have hn':f.name≠ "_" :=of_decide_eq_false hn
  rw [Op.eqFields,ZJ hn']
  simp only [Sem.run_bind,hu,hv,he d,Result.andThen_ok]
  cases a
  . simp [Sem.run_pure]
  . simp only [Bool.not_true,Bool.false_eq_true,if_false,Bool.true_and]; exact hr d w
theorem KI {b:Bool} (h:eH P k xs ys fs b) (hb:b=Zw p):eH P k xs ys fs (Zw p):=hb ▸ h
theorem fK.struct {b:Bool} (ht:P.underlying t=Zv (.struct fs.toArray)) (hp:P.stoodInHeld t=O) (h:eH P k xs ys fs b):fK P (k+1) t (Zq xs) (Zq ys) b:=λ d w=>by
  have hf:P.fieldsOf t=fs.toArray:=by simp [Program.fieldsOf,ht]
  have:=run_equalIn_struct (P:=P) w (d+k) t xs ys (by rw [hf]; exact ht) hp
  rw [show d+(k+1)=d+k+1 by omega,this,hf]
  exact h d w
theorem eT:(Zw p && Zw q)=Zw (p/\q):=(Bool.decide_and p q).symm
theorem jB:(Zw p && Zj)=Zw p:=Bool.and_true _
variable {n:Nat} {F:List (Nat × ZQ)} {w:ZZ} {ty yt:TypeId} {xo yo:Operand} {b:Bool}
theorem Me (hx:ev F xo=Zv (Zq xs)) (hy:ev F yo=Zv (Zq ys)) (hg:P.eqGuardType P.depth t=O) (hk:Nat.ble k 10000=Zj) (he:fK P k t (Zq xs) (Zq ys) b):Yl P n F w (.binOp .eql t xo yo yt) ty (Y b):=λ a ha o c _=>by
  unfold execOp
  rw [c]
  have hk':k<=10000:=Nr hk
  have:=he (10000 - k) w
  rw [show 10000 - k+k=10000 by omega] at this
  simp only [ha.eval hx,ha.eval hy,run_eqGuard_agg w .eql t xo yo xs ys hg,Sem.run_bind,Sem.run_pure,Result.andThen_ok,run_eql_struct,this]
theorem KL (hx:ev F xo=Zv (Zq xs)) (hy:ev F yo=Zv (Zq ys)) (hg:P.eqGuardType P.depth t=O) (hk:Nat.ble k 10000=Zj) (he:fK P k t (Zq xs) (Zq ys) b):Yl P n F w (.binOp .neq t xo yo yt) ty (Y (!b)):=λ a ha o c _=>by
  unfold execOp
  rw [c]
  have hk':k<=10000:=Nr hk
  have:=he (10000 - k) w
  rw [show 10000 - k+k=10000 by omega] at this
  simp only [ha.eval hx,ha.eval hy,run_eqGuard_agg w .neq t xo yo xs ys hg,Sem.run_bind,Sem.run_pure,Result.andThen_ok,run_neq_struct,this]
end
end
open List renaming drop->r8,map->s0
section
open Go.RowKit
def bnd {α β:Type} (x:α) (f:α->β):β:=f x
theorem ae {α β:Type} {x r:α} {f:α->β} (h:x=r):bnd x f=f r:=by subst h; rfl
def lp {α ρ:Type} (x:α ⊕ ρ) (f:α->ρ):ρ:=match x with
  | .inl a=>f a
  | .inr r=>r
def Iw {α σ ρ:Type} (x:α ⊕ ρ) (f:α->σ ⊕ ρ):σ ⊕ ρ:=match x with
  | .inl a=>f a
  | .inr r=> .inr r
theorem kH {α ρ:Type} {x:α ⊕ ρ} {f:α->ρ} {a:α} (h:x= .inl a):lp x f=f a:=by subst h; rfl
theorem iX {α ρ:Type} {x:α ⊕ ρ} {f:α->ρ} {r:ρ} (h:x= .inr r):lp x f=r:=by subst h; rfl
theorem I9 {α σ ρ:Type} {x:α ⊕ ρ} {f:α->σ ⊕ ρ} {a:α} (h:x= .inl a):Iw x f=f a:=by subst h; rfl
theorem GG {α σ ρ:Type} {x:α ⊕ ρ} {f:α->σ ⊕ ρ} {r:ρ} (h:x= .inr r):Iw x f= .inr r:=by subst h; rfl
theorem eD {α:Type} {b:Bool} {x y:α} (h:b=O):(if b=Zj then x else y)=y:=by subst h; rfl
theorem bG {α:Type} {ls:List α} {i:Nat} {d x:α} (h:ls[i]? =Zv x):ls.getD i d=x:=by
  rw [List.getD_eq_getElem?_getD,h]; rfl
theorem drop_at {α:Type} {ls:List α} {i:Nat} {x:α} (h:ls[i]? =Zv x):r8 i ls=x::r8 (i+1) ls:=by
  obtain⟨hi,rfl⟩:=List.getElem?_eq_some_iff.1 h
  exact List.drop_eq_getElem_cons hi
theorem eU {α:Type} {ls:List α} {i:Nat} (h:X ls<=i):r8 i ls= []:=List.drop_of_length_le h
theorem pF {n i:Nat} (h:i < n):n - i=(n - (i+1))+1:=by omega
theorem Du {n i:Nat} (h:n<=i):n - i=0:=by omega
theorem xn {n bytes:Nat} (h:n *bytes<=211106232532992) (hb:Nat.ble bytes 1048576=Zj):(n+n / 4+192) *bytes<=281474976710656:=by
  have a:(n / 4) *bytes *4<=n *bytes:=by
    rw [Nat.mul_right_comm]; exact Nat.mul_le_mul_right _ (Nat.div_mul_le_self n 4)
  rw [Nat.add_mul,Nat.add_mul]
  have c:192 *bytes<=192 *1048576:=Nat.mul_le_mul_left _ (Nr hb)
  omega
section
variable {P:Program} {n:Nat} {F:List (Nat × ZQ)} {w0 w:ZZ} {D:Nat->Prop} {L:List HP} {op:Op} {ty:TypeId} {v:ZQ} {K:ZQ->ZZ->Prop} {x y:Operand} {Z7 t:TypeId} {g o:Nat} {cs cs' xs vs:List ZQ}
theorem Kk {A:Option Addr} {k c m e size bytes:Nat} {news:List ZQ} {u:ZQ} {tx:TypeId} (el:Elem P t e size bytes) (H:Own w0 D w (row A k c xs e size::L)) (hx:ev F x=Zv (T A k c)) (hy:ev F y=Zv u) (hs:Src P size tx u m news w)
    (hb:Nat.ble bytes 1048576=Zj) (hbytes:k+m<=9223372036854775807/\(k+m) *bytes<=211106232532992) {s:Nat} {ys:List ZQ} (hsum:k+m=s) (hys:xs++news=ys) (h:∀ A' c' w',Own w0 D w' (row A' s c' ys e size::L)->K (T A' s c') w'):
    Do P n F w (.call ⟨.builtin .append, [x,y].toArray, [t,tx].toArray⟩) ty K:=λ a ha o i j next Q hn=>by
  obtain⟨A',c',w',hr,H'⟩:=H.append (P:=P) el hs o.type (by unfold maxLen; omega) λ _ ho'=>growslice_fits_wide ho' (xn hbytes.2 hb)
  unfold execOp
  rw [i]
  simp only [resolve,invoke,builtin,Sem.run_bind,Sem.run_pure,Result.andThen_ok,List.map_toArray,List.map_cons,List.map_nil,ha.eval hx,ha.eval hy,hr]
  subst hsum hys
  exact hn _ _ (h A' c' w' H')
theorem Own.rowC {A:Option Addr} {m c sz i:Nat} (H:Own w0 D w L) (hi:L[i]? =Zv (row A m c xs t sz)):m<=c/\c<=9223372036854775807:=by
  have:=H.rowLe hi; unfold maxLen at this; omega
end
theorem fI {α β:Type} {a x:α} {b y:β} (h:(a,b)=(x,y)):a=x/\b=y:=Prod.mk.inj h
theorem nM {α β γ:Type} {a x:α} {b y:β} {c z:γ} (h:(a,b,c)=(x,y,z)):a=x/\b=y/\c=z:=⟨(fI h).1,fI (fI h).2⟩
theorem eQ {α β γ δ:Type} {a x:α} {b y:β} {c z:γ} {d u:δ} (h:(a,b,c,d)=(x,y,z,u)):a=x/\b=y/\c=z/\d=u:=⟨(fI h).1,nM (fI h).2⟩
theorem kW (x:Int):IntKind.u64.wrap x=((Zc (IntKind.u64.wrap x):Nat):Int):=by
  simp only [IntKind.wrap,IntKind.signed,IntKind.bits]; simp; omega
theorem JZ {w0 w:ZZ} {D:Nat->Prop} {L:List HP} (H:Own w0 D w L):∃ a:Nat->Prop,Own w a w []/\(∀ φ,Ro w0 D φ->Ro w a φ)/\(∀ w' L',Own w a w' L'->Own w0 D w' (L'++L))/\
    (∀ (φ:ZZ->Prop) (i:Nat) (R:HP),L[i]? =Zv R->(∀ w' h,R h->(∀ k o,h k=Zv o->w'.heap[k]? =Zv o)->φ w')->Ro w a φ):=
  Own.enter (L1:= []) (L2:=L) H
theorem Kt {w0 w:ZZ} {D:Nat->Prop} {L:List HP} {c:HP} (H:Own w0 D w (c::L)):∃ a:Nat->Prop,Own w a w [c]/\(∀ φ,Ro w0 D φ->Ro w a φ)/\(∀ w' L',Own w a w' L'->Own w0 D w' (L'++L))/\
    (∀ (φ:ZZ->Prop) (i:Nat) (R:HP),L[i]? =Zv R->(∀ w' h,R h->(∀ k o,h k=Zv o->w'.heap[k]? =Zv o)->φ w')->Ro w a φ):=
  Own.enter (L1:= [c]) (L2:=L) H
theorem KE {w0 w:ZZ} {D:Nat->Prop} {L:List HP} {c e:HP} (H:Own w0 D w (c::e::L)):∃ a:Nat->Prop,Own w a w [c,e]/\(∀ φ,Ro w0 D φ->Ro w a φ)/\(∀ w' L',Own w a w' L'->Own w0 D w' (L'++L))/\
    (∀ (φ:ZZ->Prop) (i:Nat) (R:HP),L[i]? =Zv R->(∀ w' h,R h->(∀ k o,h k=Zv o->w'.heap[k]? =Zv o)->φ w')->Ro w a φ):=
  Own.enter (L1:= [c,e]) (L2:=L) H
theorem KR {w0 w:ZZ} {D:Nat->Prop} {L:List HP} {c e j:HP} (H:Own w0 D w (c::e::j::L)):∃ a:Nat->Prop,Own w a w [c,e,j]/\(∀ φ,Ro w0 D φ->Ro w a φ)/\(∀ w' L',Own w a w' L'->Own w0 D w' (L'++L))/\
    (∀ (φ:ZZ->Prop) (i:Nat) (R:HP),L[i]? =Zv R->(∀ w' h,R h->(∀ k o,h k=Zv o->w'.heap[k]? =Zv o)->φ w')->Ro w a φ):=
  Own.enter (L1:= [c,e,j]) (L2:=L) H
structure Ll (β:Type) where q::
  a:List β
instance {β:Type}:Inhabited (Ll β):=⟨⟨[]⟩⟩
instance {β:Type}:Inhabited (Sv β):=⟨⟨Zk,0, []⟩⟩
theorem bL {L:List HP} {R:HP} {φ:ZZ->Prop} (hi:R ∈ L) (f:∀ w' h,R h->(∀ k o,h k=Zv o->w'.heap[k]? =Zv o)->φ w'):∀ w' h,sepL L h->(∀ k o,h k=Zv o->w'.heap[k]? =Zv o)->φ w':=λ w' h hs a=>
  let ⟨i,hi⟩:=List.mem_iff_getElem?.1 hi
  G8 hi f w' h hs a
theorem ik {α β:Type} {f:α->β} {ds:List α} {ls:List β} {i:Nat} {x:α} (h:s0 f ds=ls) (hx:ds[i]? =Zv x):ls[i]? =Zv (f x):=by
  rw [<- h,List.getElem?_map,hx]; rfl
theorem bf {α β:Type} {f:α->β} {ds:List α} {ls:List β} (h:s0 f ds=ls):X ds=X ls:=by rw [<- h,List.length_map]
theorem iP {α β:Type} {f:α->β} {ds es:List α} {ls ms:List β} (h:s0 f ds=ls) (a:s0 f es=ms):s0 f (ds++es)=ls++ms:=by rw [List.map_append,h,a]
theorem Own.sepAdd {w0 w:ZZ} {D:Nat->Prop} {L L1 L2 a:List HP} (H:Own w0 D w (sepL L1::(L2++L))) (he:L1++L2=a):Own w0 D w (sepL a::L):=by
  subst he
  have h:=H.flat
  rw [<- List.append_assoc] at h
  exact h.pack
section
variable {P:Program} {n:Nat} {F:List (Nat × ZQ)} {w:ZZ} {op:Op} {ty:TypeId} {v:ZQ} {x:Operand} {ops:Array Oper} {rest:List Oper} {Q:Exit->Act->ZZ->Prop} {pos:String} {aft:Array Edge} {d:Nat}
theorem Mv (hd:m2 d n=Zj) (hx:ev F x=Zv v) (h:WL P ops Q rest n ((d,v)::F) w):WL P ops Q (⟨Zv d, .move x,ty,pos,aft,Zk⟩::rest) n F w:=WL.val hd (J3 hx) h
theorem As (hd:m2 d n=Zj) (hx:ev F x=Zv v) (h:WL P ops Q rest n ((d,v)::F) w):WL P ops Q (⟨Zv d, .assign x,ty,pos,aft,Zk⟩::rest) n F w:=WL.val hd (KV hx) h
theorem Kn (hd:m2 d n=Zj) (hk:known F op.operands.toList=Zj) (hs:qF op=Zj) (hr:∀ Z8,(execOp (oW F) ⟨Zk,op,ty, "", #[],Zk⟩).run P Z8= .ok (.value v) Z8) (h:WL P ops Q rest n ((d,v)::F) w):WL P ops Q (⟨Zv d,op,ty,pos,aft,Zk⟩::rest) n F w:=
  WL.val hd (Lv hk hs hr) h
theorem Sk {j t:Nat} {b b':Bool} (hj:(ops[j]?).bind (·.dst)=Zv t) (hv:look F t=Zv (Y b')) (hb:b'= !b) (hd:m2 d n=Zj) (h:WL P ops Q rest n ((d,undef)::F) w):
    WL P ops Q (⟨Zv d,op,ty,pos,aft,Zv (j,b)⟩::rest) n F w:=Ma hj hv hb hd h
end
def kX (n:Nat):List Nat->Array Bool
  | []=>Array.replicate n O
  | i::r=>(kX n r).setIfInBounds i Zj
def GX (P:Program) (ops:Array Oper) (Q:Exit->Act->ZZ->Prop) (ks:List Nat) (Good:ZZ->Prop) (fuel:Nat) (l:List Nat) (n:Nat) (F:List (Nat × ZQ)) (w:ZZ):Prop:=
  bJ Q->Region.noSelect ops=Zj->GW P ops Q (lX ks Good) fuel (kX ops.size l) n F w
def tk (ops:Array Oper) (ks:List Nat) (rs:List (List Nat)) (i:Nat) (l:List Nat) (d n:Nat):Bool:=
  Region.free .any ops (kX ops.size l) i && (Region.ready .any ops (kX ops.size l)).contains i && ways ops i ks rs && m2 d n
section
variable {P:Program} {ops:Array Oper} {Q:Exit->Act->ZZ->Prop} {ks:List Nat} {Good:ZZ->Prop} {n:Nat} {F:List (Nat × ZQ)} {w:ZZ} {op:Op} {ty:TypeId} {v:ZQ} {fuel:Nat} {l:List Nat} {pos:String} {aft:Array Edge} {d:Nat}
theorem K8 {i:Nat} {l:List Oper} (ks:List Nat) (Good:ZZ->Prop) (hm:P.follows .mixedOrders=Zj) (hns:Region.noSelect l.toArray=Zj) (hQ:bJ Q) (hS:Good w.drew)
    (h:GX P l.toArray Q ks Good (X l) [] n F w.drew):Wp P (.region i l.toArray Zj) n F w Q:=
  MH (lX ks Good) hm (.inr hS) (h hQ hns)
theorem GX.take {rs:List (List Nat)} (i:Nat) (hi:ops[i]? =Zv ⟨Zv d,op,ty,pos,aft,Zk⟩) (hk:tk ops ks rs i l d n=Zj)
    (hy:∀ Z8,Good Z8->Yl P n F Z8 op ty v) (h:GX P ops Q ks Good fuel (i::l) n ((d,v)::F) w):GX P ops Q ks Good (fuel+1) l n F w:=λ hQ hs=>by
  simp only [tk,Bool.and_eq_true] at hk
  exact GW.take hi hs hk.2 hQ hk.1.1.1 hk.1.1.2 hk.1.2 Z hy (h hQ hs)
theorem J2 {rs:List (List Nat)} (i:Nat) {j t:Nat} {b b':Bool} (hi:ops[i]? =Zv ⟨Zv d,op,ty,pos,aft,Zv (j,b)⟩) (hj:(ops[j]?).bind (·.dst)=Zv t) (hv:look F t=Zv (Y b')) (hb:b'=b) (hk:tk ops ks rs i l d n=Zj)
    (hy:∀ Z8,Good Z8->Yl P n F Z8 op ty v) (h:GX P ops Q ks Good fuel (i::l) n ((d,v)::F) w):GX P ops Q ks Good (fuel+1) l n F w:=λ hQ hs=>by
  simp only [tk,Bool.and_eq_true] at hk
  exact MI hi hj hv hb hs hk.2 hQ hk.1.1.1 hk.1.1.2 hk.1.2 Z hy (h hQ hs)
theorem JV {rs:List (List Nat)} (i:Nat) {j t:Nat} {b b':Bool} (hi:ops[i]? =Zv ⟨Zv d,op,ty,pos,aft,Zv (j,b)⟩) (hj:(ops[j]?).bind (·.dst)=Zv t) (hv:look F t=Zv (Y b')) (hb:b'= !b) (hk:tk ops ks rs i l d n=Zj)
    (h:GX P ops Q ks Good fuel (i::l) n ((d,undef)::F) w):GX P ops Q ks Good (fuel+1) l n F w:=λ hQ hs=>by
  simp only [tk,Bool.and_eq_true] at hk
  exact MJ hi hj hv hb hs hk.2 hQ hk.1.1.1 hk.1.1.2 hk.1.2 Z (h hQ hs)
theorem KQ {rs:List (List Nat)} (i:Nat) {j t:Nat} {b:Bool} (hi:ops[i]? =Zv ⟨Zv d,op,ty,pos,aft,Zv (j,b)⟩) (hj:(ops[j]?).bind (·.dst)=Zv t) (hv:look F t=Zv undef) (hk:tk ops ks rs i l d n=Zj)
    (h:GX P ops Q ks Good fuel (i::l) n ((d,undef)::F) w):GX P ops Q ks Good (fuel+1) l n F w:=λ hQ hs=>by
  simp only [tk,Bool.and_eq_true] at hk
  exact Mt hi hj hv hs hk.2 hQ hk.1.1.1 hk.1.1.2 hk.1.2 Z (h hQ hs)
def Jp (ops:Array Oper) (ks:List Nat) (i:Nat) (l:List Nat) (d n:Nat):Bool:=
  Region.free .any ops (kX ops.size l) i && (Region.ready .any ops (kX ops.size l)).contains i && !(ks.contains i) && m2 d n
theorem Kr (i:Nat) (hi:ops[i]? =Zv ⟨Zv d,op,ty,pos,aft,Zk⟩) (hk:Jp ops ks i l d n=Zj)
    (hy:∀ Z8,Yl P n F Z8 op ty v) (h:GX P ops Q ks Good fuel (i::l) n ((d,v)::F) w):GX P ops Q ks Good (fuel+1) l n F w:=λ hQ hs=>by
  simp only [Jp,Bool.and_eq_true,Bool.not_eq_true'] at hk
  exact MK hi hs hk.2 hQ hk.1.1.1 hk.1.1.2 hk.1.2 Z hy (h hQ hs)
theorem Lc {Good':ZZ->Prop} (hle:∀ Z8,Good' Z8->Good Z8) (a:Good' w) (h:GX P ops Q ks Good' fuel l n F w):GX P ops Q ks Good fuel l n F w:=λ hQ hs=>MP hle a (h hQ hs)
def dx (ops:Array Oper) (i:Nat) (l:List Nat):Bool:=Zw (Region.ready .any ops (kX ops.size l)= [i])
theorem GX.do (i:Nat) (hi:ops[i]? =Zv ⟨Zv d,op,ty,pos,aft,Zk⟩) (hk:(dx ops i l && m2 d n)=Zj)
    (h:Do P n F w op ty λ v w'=>(ks.any (λ k=>(kX ops.size (i::l)).getD k O)=Zj\/Good w')/\GX P ops Q ks Good fuel (i::l) n ((d,v)::F) w'):GX P ops Q ks Good (fuel+1) l n F w:=λ hQ hs=>by
  simp only [dx,Bool.and_eq_true,decide_eq_true_eq] at hk
  exact GW.do hi hk.2 hk.1 Z (h.mono λ v w' k=>⟨k.1,k.2 hQ hs⟩)
theorem MX (i:Nat) (hi:ops[i]? =Zv ⟨Zk,op,ty,pos,aft,Zk⟩) (hk:dx ops i l=Zj)
    (h:Do P n F w op ty λ _ w'=>(ks.any (λ k=>(kX ops.size (i::l)).getD k O)=Zj\/Good w')/\GX P ops Q ks Good fuel (i::l) n F w'):GX P ops Q ks Good (fuel+1) l n F w:=λ hQ hs=>by
  simp only [dx,decide_eq_true_eq] at hk
  exact MU hi hk Z (h.mono λ v w' k=>⟨k.1,k.2 hQ hs⟩)
theorem KG (i:Nat) {j t:Nat} {b b':Bool} (hi:ops[i]? =Zv ⟨Zv d,op,ty,pos,aft,Zv (j,b)⟩) (hj:(ops[j]?).bind (·.dst)=Zv t) (hv:look F t=Zv (Y b')) (hb:b'=b) (hk:(dx ops i l && m2 d n)=Zj)
    (h:Do P n F w op ty λ v w'=>(ks.any (λ k=>(kX ops.size (i::l)).getD k O)=Zj\/Good w')/\GX P ops Q ks Good fuel (i::l) n ((d,v)::F) w'):GX P ops Q ks Good (fuel+1) l n F w:=λ hQ hs=>by
  simp only [dx,Bool.and_eq_true,decide_eq_true_eq] at hk
  exact MW hi hj hv hb hk.2 hk.1 Z (h.mono λ v w' k=>⟨k.1,k.2 hQ hs⟩)
theorem MR (hk:(Region.ready .any ops (kX ops.size l)).isEmpty=Zj) (h:Fin Q .normal n F w):GX P ops Q ks Good fuel l n F w:=λ _ _=>
  MQ (List.isEmpty_iff.1 hk) h
end
end
open List renaming all_eq_true->s7,append_nil->s1,drop_append_of_le_length->v0,eq_nil_of_length_eq_zero->s6,flatMap_append->u3,flatMap_nil->u4,getElem?_toArray->t7,map_cons->t0,map_nil->t1,map_toArray->s9,take->u2,take_append_drop->s3,take_append_of_le_length->u0,take_left->t8,take_left'->u9,take_length->s4,take_take->u1
open Nat renaming eq_zero_or_pos->s5,le_refl->s2,min_eq_left->t6,mul_pos->s8,one_mul->u5
section
open Go.RowKit
section
variable {P:Program} {n:Nat} {F:List (Nat × ZQ)} {w0 w:ZZ} {D:Nat->Prop} {L:List HP} {op:Op} {ty:TypeId} {v:ZQ} {K:ZQ->ZZ->Prop} {x y:Operand} {Z7 t:TypeId} {g o:Nat} {cs cs' xs vs ys news:List ZQ}
theorem Mx {f:FuncId} {args:List Operand} {tys:Array TypeId} {a b:List UInt8} (hr:∀ (bs:Array ZQ) (Z8:ZZ),(callFunc f bs).run P Z8=((Extern.BytealgCompare.compare bs).run P Z8).andThen λ v w'=> .ok (.value v) w') (ha:wS F args=Zv [Z9 ⟨a.toArray⟩, Z9 ⟨b.toArray⟩]):
    Yl P n F w (.call ⟨.value (.func f),args.toArray,tys⟩) ty (.int .i64 (Lib.compareBytes a b)):=λ ac hag o d _=>by
  unfold execOp
  rw [d]
  have he:=hag.evals ha
  simp [resolve,Act.eval,Deferred.ofValue,invoke,he,hr,Lib.run_compareString,Result.andThen]
theorem Own.rowFull {A:Option Addr} {m c sz:Nat} (H:Own w0 D w (row A m c xs t sz::L)):∃ sp:List ZQ,X sp=(c - m) *sz/\Own w0 D w (row A c c (xs++sp) t sz::L):=by
  obtain⟨h,hR,f⟩:=H.get (i:=0) Z
  have hle:=H.rowLe (i:=0) Z
  rcases hR.2 with ⟨rfl,rfl,rfl⟩ | ⟨g,cur,fz,rfl,j,B,C,a,E,G⟩
  . exact⟨[],by simp,by rw [s1]; exact H⟩
  . have hcl:X cur.toList=cur.size:=Array.length_toList
    refine⟨cur.toList.drop (m *sz),by rw [o2,hcl,a,Nat.sub_mul],H.upd Z Z Z (s2 _) λ l ⟨I,p⟩ hk=> ?_⟩
    rcases p with ⟨e,_⟩ | ⟨g',cur',fz',e,b,J,q,r,d,s⟩
    . cases e
    . injection e with e
      injection e with e
      subst e
      have hcc:=hk g _ b
      rw [f g _ j] at hcc
      injection hcc with hcc
      injection hcc with u _ z
      subst u z
      refine⟨l,⟨?_, .inr ⟨g,cur,fz,Z,b,s2 _,q,r, ?_,s⟩⟩,λ k o hk'=>⟨hk k o hk', .inl (by rw [hk']; exact Option.some_ne_none _)⟩,λ _ _ _=>rfl⟩
      . rw [<- d,s3,hcl,a]
      . rw [<- d,s3, <- a, <- hcl,s4]
theorem Own.rowPart {A:Option Addr} {m k c sz:Nat} (H:Own w0 D w (row A m c xs t sz::L)) (hk:k<=m) (hys:xs.take (k *sz)=ys):Own w0 D w (row A k c ys t sz::L):=H.rowTake hk hys
theorem Own.room {A:Option Addr} {c k m sz:Nat} {u:ZQ} {tx:TypeId} (H:Own w0 D w (row A c c xs t sz::L)) (hz:0 < sz) (hs:Src P sz tx u m news w) (hroom:k+m<=c):
    ∃ w',(match A with | some a=>storeCells (a.add (k *sz)) news 0 | none=>pure ()).run P w= .ok () w'/\Own w0 D w' (row A c c (put xs (k *sz) news) t sz::L):=by
  rcases s5 m with b | b
  . have hn:news= []:=s6 (by rw [hs.newsLen,b,Nat.zero_mul])
    subst hn
    have hp:put xs (k *sz) []=xs:=by simp [put]
    rw [hp]
    refine⟨w, ?_,H⟩
    cases A <;> rfl
  . have hc:0 < c:=by omega
    have hl:=hs.newsLen
    obtain⟨w',d,f⟩:=H.storeRow (P:=P) (vs:=news) (o:=k *sz) (by rw [s7]; exact λ u hu=>hs.one u hu) (by rw [hl]; exact s8 b hz) (by rw [hl,(H.rowLe (i:=0) Z).2.2, <- q0]; exact o0 _ hroom) Z
    refine⟨w', ?_,f⟩
    rw [((H.rds (i:=0) Z).isSome hc)]
    simp only [add0]
    exact d
theorem KX {A:Option Addr} {k c m e size bytes:Nat} {u:ZQ} {tx:TypeId} (el:Elem P t e size bytes) (H:Own w0 D w (row A c c xs e size::L)) (hx:ev F x=Zv (T A k c)) (hy:ev F y=Zv u) (hs:Src P size tx u m news w)
    (hroom:k+m<=c) {s:Nat} (hsum:k+m=s) (h:∀ w',Own w0 D w' (row A c c (put xs (k *size) news) e size::L)->K (T A s c) w'):
    Do P n F w (.call ⟨.builtin .append, [x,y].toArray, [t,tx].toArray⟩) ty K:=λ a ha o b d next Q hn=>by
  obtain⟨i,z,ht,hi,hz,rfl,rfl,hzs,hsz⟩:=el
  obtain⟨w',hst,H'⟩:=H.room (P:=P) hsz hs hroom
  unfold execOp
  rw [b]
  subst hsum
  have hrun:(Builtin.append_ #[t,tx] o.type #[T A k c,u]).run P w= .ok (T A (k+m) c) w':=by
    rcases hs.kind with ⟨e',hk⟩ | hk <;> cases A <;> simp [Builtin.append_,run_underlying ht,run_underlying hk,sizeOf,typeInfo,hi,hs.len,hroom,hs.cells] <;> simp at hst <;> first | (rw [hst]; rfl) | (subst hst; rfl) | (rw [hst])
  simp only [resolve,invoke,builtin,Sem.run_bind,Sem.run_pure,Result.andThen_ok,s9,t0,t1,ha.eval hx,ha.eval hy,hrun]
  exact hn _ _ (h w' H')
theorem Lp {A Ad:Option Addr} {lo nd cd c e size bytes:Nat} {z0:ZQ} (b:(P.info? e).map (·.zero)=Zv (Zv z0)) (f:z0.cells.toList.all Value.oneCell'=Zj) (el:Elem P t e size bytes) (H:Own w0 D w (row A c c xs e size::L)) (hx:ev F x=Zv (T Ad nd cd)) (hA:0 < nd->Ad=Zv ⟨ab A,ao A+lo *size,Zk⟩) (hfit:lo+nd<=c)
    (h:∀ w' zs,X zs=nd *size->Own w0 D w' (row A c c (put xs (lo *size) zs) e size::L)->K (.tuple #[]) w'):
    Do P n F w (.call ⟨.builtin .clear, [x].toArray, [t].toArray⟩) ty K:=λ a ha o k r next Q hn=>by
  obtain⟨i,z,ht,hi,hz,rfl,rfl,hzs,hsz⟩:=el
  have hle:=H.rowLe (i:=0) Z
  have key:∃ w' zs,X zs=nd *i.size/\(Builtin.clear_ #[t] o.type #[T Ad nd cd]).run P w= .ok (.tuple #[]) w'/\Own w0 D w' (row A c c (put xs (lo *i.size) zs) e i.size::L):=by
    rcases s5 nd with d | d
    . subst d
      refine⟨w, [],by simp, ?_,by simpa [put] using H⟩
      cases Ad <;> simp [Builtin.clear_,run_underlying ht]
    . have hAd:=hA d
      subst hAd
      have hzl:(Builtin.zeroCells z.cells nd).toList.length=nd *i.size:=by rw [Array.length_toList,oH,hzs]
      have hone:(Builtin.zeroCells z.cells nd).toList.all Value.oneCell'=Zj:=by
        have hzz:z=z0:=by
          rw [hi] at b
          simp only [Option.map_some,hz,Option.some.injEq] at b
          exact b
        subst hzz
        rw [s7]
        intro u hu
        simp only [Builtin.zeroCells] at hu
        simp at hu
        obtain⟨q,_,rfl⟩:=hu
        have hlt:q % z.cells.size < z.cells.size:=Nat.mod_lt _ U
        rw [getElem!_pos z.cells _ hlt]
        exact(s7.1 f) _ i2
      obtain⟨w',l,p⟩:=H.storeRow (P:=P) (vs:=(Builtin.zeroCells z.cells nd).toList) (o:=lo *i.size) hone (by rw [hzl]; exact s8 d hsz) (by rw [hzl,hle.2.2, <- q0]; exact o0 _ hfit) Z
      refine⟨w',_,hzl, ?_,p⟩
      obtain⟨j,hj⟩:∃ j,nd=j+1:=⟨nd - 1,U⟩
      subst hj
      simp [Builtin.clear_,run_underlying ht,zeroValue,typeInfo,hi,hz,l]
  obtain⟨w',zs,hzl,hrun,H'⟩:=key
  unfold execOp
  rw [k]
  simp only [resolve,invoke,builtin,Sem.run_bind,Sem.run_pure,Result.andThen_ok,s9,t0,t1,ha.eval hx,hrun]
  exact hn _ _ (h w' zs hzl H')
theorem KJ {A Ad B:Option Addr} {q c nd cd m cm lo k e size bytes:Nat} {tx:TypeId} (el:Elem P t e size bytes) (H:Own w0 D w (row A q c xs e size::L)) (hx:ev F x=Zv (T Ad nd cd)) (hA:0 < nd->Ad=Zv ⟨ab A,ao A+lo *size,Zk⟩) (hfit:lo+nd<=q)
    (hy:ev F y=Zv (T B m cm)) (hr:bV w size B m news) (hk:min m nd=k) (j:∀ u ∈ news.take (k *size),u.oneCell'=Zj) (hys:put xs (lo *size) (news.take (k *size))=ys) (h:∀ w',Own w0 D w' (row A q c ys e size::L)->K (.int .i64 (k:Int)) w'):
    Do P n F w (.call ⟨.builtin .copy, [x,y].toArray, [t,tx].toArray⟩) ty K:=λ a ha o l p next Q hn=>by
  obtain⟨i,z,ht,hi,hz,rfl,rfl,hzs,hsz⟩:=el
  have hfc:=vN (P:=P) (k:=k) (c:=cm) hr U
  have hlen:X (news.take (k *i.size))=k *i.size:=by
    rw [o1,hr.1]
    exact t6 (o0 _ U)
  have key:∃ w',(match Ad with | some a=>storeCells a (news.take (k *i.size)) 0 | none=>pure ()).run P w= .ok () w'/\Own w0 D w' (row A q c ys e i.size::L):=by
    rcases s5 k with d | d
    . subst d
      have f:news.take (0 *i.size)= []:=by simp
      rw [f] at hys ⊢
      have:ys=xs:=by rw [<- hys]; simp [put]
      subst this
      refine⟨w, ?_,H⟩
      cases Ad <;> rfl
    . have hnd:0 < nd:=by omega
      have hAd:=hA hnd
      subst hAd
      have hpos:0 < X (news.take (k *i.size)):=by rw [hlen]; exact s8 d hsz
      exact H.storeRow (P:=P) (by rw [s7]; exact λ u hu=>j u hu) hpos (by
        rw [hlen,(H.rowLe (i:=0) Z).2.2, <- q0]
        exact o0 _ U) hys
  obtain⟨w',hst,H'⟩:=key
  unfold execOp
  rw [l]
  have hrun:(Builtin.copy_ #[t,tx] o.type #[T Ad nd cd, T B m cm]).run P w= .ok (.int .i64 (k:Int)) w':=by
    simp only [Builtin.copy_,t7,List.getElem?_cons_zero,List.getElem?_cons_succ,Sem.run_bind,run_underlying ht,Result.andThen_ok,Builtin.lenOf,Sem.run_pure,sizeOf,typeInfo]
    simp [hi,hk,hfc,Result.andThen]
    cases Ad with
    | none=>
      simp only [Sem.run_pure] at hst
      injection hst with _ hw
      subst hw
      rfl
    | some b=>
      simp only at hst
      simp [hst,Result.andThen,goInt]
  simp only [resolve,invoke,builtin,Sem.run_bind,Sem.run_pure,Result.andThen_ok,s9,t0,t1,ha.eval hx,ha.eval hy,hrun]
  exact hn _ _ (h w' H')
def mF (A:Option Addr) (m:Nat) (xs:List ZQ) (t:TypeId) (sz:Nat):HP:=λ h=>X xs=m *sz/\∃ g,A=Zv ⟨g,0,Zk⟩/\h g=Zv (.cells xs.toArray t (0,0))
theorem K6 {sz m:Nat} (H:Own w0 D w L) (hk:known F op.operands.toList=Zj) (b:qF op=Zj) (hr:∀ Z8,(execOp (oW F) ⟨Zk,op,ty, "", #[],Zk⟩).run P Z8= .ok (.value (T (Zv ⟨Z8.heap.size,0,Zk⟩) m m)) (Z8.alloc (.cells cs.toArray t (0,0))))
    (hl:X cs=m *sz) (h:∀ A w',Own w0 D w' (mF A m cs t sz::L)->K (T A m m) w'):Do P n F w op ty K:=λ a ha o d f next Q hn=>by
  have hs:=wz b
  have e:execOp a.eval o=execOp (oW F) o:=execOp_congr o (by rw [d]; exact hs) λ x hx=>uB ha hk x (by rw [d] at hx; simpa using hx)
  have i:execOp (oW F) o=execOp (oW F) ⟨Zk,op,ty, "", #[],Zk⟩:=by
    unfold execOp
    rw [d,f]
  rw [e,i,hr w]
  exact hn _ _ (h _ _ (H.alloc _ ⟨hl,w.heap.size,Z,by simp⟩))
theorem lT {A:Option Addr} {m sz:Nat} (w':ZZ) (h:Nat->Option Obj) (hr:mF A m xs t sz h) (a:∀ k o,h k=Zv o->w'.heap[k]? =Zv o):bV w' sz A m xs:=by
  obtain⟨hl,g,rfl,hg⟩:=hr
  refine⟨hl,λ _=>⟨Z,λ j u hj=> ?_⟩⟩
  show w'.cell? ⟨g,0+j,Zk⟩=Zv u
  rw [cell_of_row w' g (0+j) _ t (0,0) (a g _ hg),Nat.zero_add,t7]
  exact hj
theorem KY {f:FuncId} {args:List Operand} {tys:Array TypeId} {A B Bd:Option Addr} {m c nd cd tS tR e size lo:Nat} {zs:List Value} {b:TypeId} (hrun:∀ (bs:Array Value) (Z8:World),(callFunc f bs).run P Z8=((Extern.SlicesOverlaps.overlaps #[tS,tS] #[tR] bs).run P Z8).andThen λ v w'=> .ok (.value v) w') (ht:P.underlying tS=some (.slice e)) (hz:∀ w,(Go.sizeOf e).run P w= .ok size w)
    (H:Own w0 D w (mF A m zs t size::row B c c xs b size::L)) (hsz:0 < size) (hc:0 < c) (ha:wS F args=Zv [T A m m, T Bd nd cd]) (hB:Bd=Zv ⟨ab B,ao B+lo *size,Zk⟩):
    Yl P n F w (.call ⟨.value (.func f),args.toArray,tys⟩) ty (Y O):=λ ac hag o j _=>by
  obtain⟨hh,hown,fs,d,h,f3⟩:=H.own
  obtain⟨hl,g,rfl,hg⟩:=d 0 _ Z
  have hgw:=(hown g _ (h 0 g _ hg)).1
  obtain⟨hxl,hR⟩:=d 1 _ Z
  rcases hR with ⟨_,_,l⟩ | ⟨a,cur,fz,rfl,i,p,q,k,r,s⟩
  . omega
  have hg2w:=(hown a _ (h 1 a _ i)).1
  have hne:g≠a:=λ e=>by
    subst e
    rcases f3 0 1 g f7 with e | e
    . rw [hg] at e; cases e
    . rw [i] at e; cases e
  subst hB
  have hpos:cur.size≠0:=by rw [k]; exact Nat.ne_of_gt (s8 hc hsz)
  have hov:=Lib.run_overlaps_apart (P:=P) w tS tR e ht size hz ⟨g,0,Zk⟩ ⟨a,lo *size,Zk⟩ m m nd cd hne t b zs.toArray.size cur.size (by simp [World.shape?,hgw]) (by simp [World.shape?,hg2w]) hpos (by simp [World.frozen?,hgw]) (by simp [World.frozen?,hgw])
  unfold execOp
  rw [j]
  have he:=hag.evals ha
  simp only [ab,ao,Nat.zero_add] at he
  simp [resolve,Act.eval,Deferred.ofValue,invoke,he,hrun,hov,Result.andThen]
theorem KW {A:Option Addr} {q k c m e size bytes:Nat} {tn:TypeId} {kn kq:IntKind} (el:Elem P t e size bytes) (htn:P.underlying tn=Zv (.int kn)) (H:Own w0 D w (row A q c xs e size::L)) (hx:ev F x=Zv (T A k c)) (hy:ev F y=Zv (.int kq (m:Int)))
    (hkq:k<=q) (hg:c < k+m) (hm:0 < m) (hb:Nat.ble bytes 1048576=Zj) (hbytes:k+m<=9223372036854775807/\(k+m) *bytes<=211106232532992) {s:Nat} (hsum:k+m=s)
    (h:∀ A' c' zs w',X zs=m *size->Own w0 D w' (row A' s c' (xs.take (k *size)++zs) e size::row A q c xs e size::L)->K (T A' s c') w'):
    Do P n F w (.call ⟨.builtin .append, [x,y].toArray, [t,tn].toArray⟩) ty K:=λ a ha o d l next Q hn=>by
  obtain⟨i,z,ht,hi,hz,rfl,rfl,hzs,hsz⟩:=el
  have hle:=H.rowLe (i:=0) Z
  have hkl:X (xs.take (k *i.size))=k *i.size:=by rw [o1,hle.2.2]; exact t6 (o0 _ hkq)
  have hR:bV w i.size A k (xs.take (k *i.size)):=by
    have:=(H.rds (i:=0) Z).sub (k:=0) (m:=k) (A':=A) U (λ hk=>by rw [Nat.zero_mul,Nat.add_zero]; exact(H.rds (i:=0) Z).isSome U)
    simpa using this
  have hold:(Builtin.firstCells i.size k (T A k c)).run P w.drew= .ok (Zb (xs.take (k *i.size))) w.drew:=by
    rcases s5 k with b | b
    . subst b
      cases A <;> simp [Builtin.firstCells] <;> rfl
    . rw [hR.isSome b]
      exact run_firstCells_some w.drew i.size k _ k c _ hkl λ j v hj=>by
        rw [add0]; exact hR.cell hj
  unfold execOp
  rw [d]
  simp only [resolve,invoke,builtin,Sem.run_bind,Sem.run_pure,Result.andThen_ok,s9,t0,t1,ha.eval hx,ha.eval hy,(Lib.run_append_grow_zeros (P:=P) w t tn o.type e i z kq kn ht htn hi hz A k c _ hold m hm hsz hg U (Nat.le_trans (o0 _ (by omega:m<=k+m)) U) (growslice_fits_wide hg (xn hbytes.2 hb)))]
  subst hsum
  have hzl:(Builtin.zeroCells z.cells m).toList.length=m *i.size:=by rw [Array.length_toList,oH,hzs]
  have hge:=grownCap_ge w (k+m) c e
  refine hn _ _ (h _ _ (Builtin.zeroCells z.cells m).toList _ hzl (H.drew.alloc _ ⟨by rw [o3,hkl,hzl,q0], .inr ⟨w.heap.size,_,(0,0),Z,by simp; rfl,hge,grownCap_le_maxLen w (k+m) c e (by unfold maxLen; omega), ?_, ?_,xk.zero _⟩⟩))
  . rw [Array.size_append,Array.size_append,oH,oH,hzs,List.size_toArray,hkl, <- q0, <- q0]
    congr 1
    omega
  . have f:(k+m) *i.size=X (xs.take (k *i.size)++(Builtin.zeroCells z.cells m).toList):=by rw [o3,hkl,hzl,q0]
    rw [f,Array.toList_append,Array.toList_append, <- q2]
    exact t8
end
section
variable {P:Program} {n:Nat} {F:List (Nat × ZQ)} {w:ZZ} {ty Z7 e sz bytes m c:Nat} {A:Option Addr} {x:Operand}
end
section
variable {α:Type} {enc:α->List ZQ} {sz:Nat}
theorem BP {a v:List ZQ} {o k:Nat} (h:k<=o) (ho:o<=X a):(put a o v).take k=a.take k:=by
  unfold put
  rw [q2,u0 (by rw [o1]; omega),u1,t6 h]
theorem vB {a v:List ZQ} {o k:Nat} (ho:o<=X a) (hk:k=o+X v):(put a o v).take k=a.take o++v:=by
  subst hk
  unfold put
  have:o+X v=X (a.take o++v):=by rw [o3,o1]; omega
  rw [this]
  exact t8
theorem xq (hz:∀ x,X (enc x)=sz) {l:List α} {sp:List ZQ} {k:Nat} (hk:k<=X l):(q1 enc l++sp).take (k *sz)=q1 enc (u2 k l):=by
  rw [u0 (by rw [kU hz]; exact o0 _ hk),uY hz]
theorem tZ (hz:∀ x,X (enc x)=sz) {l:List α} {sp zs:List ZQ} {i j Z5:Nat} (hij:i<=j) (hj:j<=X l) (hN:Z5=X (u2 i l++r8 j l)):
    u2 (Z5 *sz) (put (put (q1 enc l++sp) (i *sz) (q1 enc (r8 j l))) (Z5 *sz) zs)=q1 enc (u2 i l++r8 j l):=by
  have hN':Z5=i+(X l - j):=by rw [hN,o3,o1,o2]; omega
  have a:i *sz<=X l *sz:=o0 _ U
  have b:Z5 *sz<=X l *sz:=o0 _ U
  have hl:X (q1 enc l++sp)=X l *sz+X sp:=by rw [o3,kU hz]
  have hd:X (q1 enc (r8 j l))=(X l - j) *sz:=by rw [kU hz,o2]
  have hs:i *sz+(X l - j) *sz=Z5 *sz:=by rw [<- q0,hN']
  rw [BP (s2 _) (by rw [uw (by rw [hl,hd]; omega),hl]; omega),vB (by rw [hl]; omega) (by rw [hd,hs]),xq hz U, <- u3]
theorem uD (hz:∀ x,X (enc x)=sz) {l:List α} {x:α} {zs:List ZQ} {i Z5 b k2:Nat} (hi:i<=X l) (hzs:X zs=(X l+1 - i) *sz) (f:b=1) (a:k2=X l - i) (hN:Z5=X l+1):
    u2 (Z5 *sz) (put (put ((q1 enc l).take (i *sz)++zs) (i *sz) ((q1 enc [x]).take (b *sz))) ((i+1) *sz) ((q1 enc (r8 i l)).take (k2 *sz)))=q1 enc (u2 i l++(x::r8 i l)):=by
  subst f a hN
  have hx:(q1 enc [x]).take (1 *sz)=enc x:=by
    simp only [p5,u4,s1,u5]
    rw [<- hz x,s4]
  have hdl:X (q1 enc (r8 i l))=(X l - i) *sz:=by rw [kU hz,o2]
  rw [hx, <- hdl,s4,uY hz]
  have ht:X (q1 enc (u2 i l))=i *sz:=by rw [kU hz,o1,t6 hi]
  have h:(i+1) *sz=i *sz+sz:=by rw [q0,u5]
  have j:(X l+1 - i) *sz=(X l - i) *sz+sz:=by rw [show X l+1 - i=(X l - i)+1 by omega,q0,u5]
  have d:(X l+1) *sz=(i+1) *sz+(X l - i) *sz:=by rw [<- q0]; congr 1; omega
  have hput:X (put (q1 enc (u2 i l)++zs) (i *sz) (enc x))=(X l+1) *sz:=by
    rw [uw (by rw [o3,ht,hzs,hz]; omega),o3,ht,hzs,d]; omega
  rw [vB (by rw [hput]; omega) (by rw [hdl,d])]
  have a:(put (q1 enc (u2 i l)++zs) (i *sz) (enc x)).take ((i+1) *sz)=q1 enc (u2 i l)++enc x:=by
    rw [vB (by rw [o3,ht]; omega) (by rw [hz,h]),u9 ht]
  rw [a,u3,p5,q2]
theorem uE (hz:∀ x,X (enc x)=sz) {l:List α} {sp:List ZQ} {i k2 m:Nat} (hi:i<=X l) (a:k2=X l - i) (hm:X l - i<=m):
    (((q1 enc l++sp).drop (i *sz)).take (m *sz)).take (k2 *sz)=q1 enc (r8 i l):=by
  subst a
  have hle:i *sz<=X l *sz:=o0 _ hi
  rw [u1,t6 (o0 _ hm),v0 (by rw [(kU hz l)]; exact hle),tY hz]
  have:(X l - i) *sz=X (q1 enc (r8 i l)):=by rw [kU hz,o2]
  rw [this]
  exact t8
theorem uF (hz:∀ x,X (enc x)=sz) {l:List α} {x:α} {sp:List ZQ} {i Z5 f k2 m:Nat} (hi:i<=X l) (hsp:sz<=X sp) (h:f=1) (j:k2=X l - i) (hN:Z5=X l+1) (hm:X l - i<=m):
    u2 (Z5 *sz) (put (put (q1 enc l++sp) ((i+1) *sz) ((((q1 enc l++sp).drop (i *sz)).take (m *sz)).take (k2 *sz))) (i *sz) ((q1 enc [x]).take (f *sz)))=q1 enc (u2 i l++(x::r8 i l)):=by
  subst h j hN
  have hx:(q1 enc [x]).take (1 *sz)=enc x:=by
    simp only [p5,u4,s1,u5]
    rw [<- hz x,s4]
  have hfl:=kU hz l
  have hle:i *sz<=X l *sz:=o0 _ hi
  have hnews:(((q1 enc l++sp).drop (i *sz)).take (m *sz)).take ((X l - i) *sz)=q1 enc (r8 i l):=by
    rw [u1,t6 (o0 _ hm),v0 (by rw [hfl]; exact hle),tY hz]
    have:(X l - i) *sz=X (q1 enc (r8 i l)):=by rw [kU hz,o2]
    rw [this]
    exact t8
  rw [hx,hnews]
  have hdl:X (q1 enc (r8 i l))=(X l - i) *sz:=by rw [kU hz,o2]
  have k:(i+1) *sz=i *sz+sz:=by rw [q0,u5]
  have p:(X l+1) *sz=(i+1) *sz+(X l - i) *sz:=by rw [<- q0]; congr 1; omega
  have q:(X l+1) *sz=X l *sz+sz:=by rw [q0,u5]
  have hal:X (q1 enc l++sp)=X l *sz+X sp:=by rw [o3,hfl]

  have hA:∀ (a:List ZQ) (d b:List ZQ) (o:Nat),o+X b+X d<=X a->u2 (o+X b+X d) (put (put a (o+X b) d) o b)=a.take o++(b++d):=by
    intro a d b o hle
    have hl:X (a.take (o+X b))=o+X b:=by rw [o1]; omega
    have hdrop:(put a (o+X b) d).drop (o+X b)=d++a.drop (o+X b+X d):=by
      unfold put
      rw [q2]
      exact List.drop_left' hl
    show u2 _ ((put a (o+X b) d).take o++b++(put a (o+X b) d).drop (o+X b))=_
    rw [BP U U,hdrop, <- q2,q2 (u2 o a)]
    exact u9 (by simp only [o3,o1]; omega)
  have hq:=hA (q1 enc l++sp) (q1 enc (r8 i l)) (enc x) (i *sz) (by rw [hdl,hz,hal]; omega)
  rw [hz,hdl] at hq
  rw [k,show (X l+1) *sz=i *sz+sz+(X l - i) *sz by omega,hq,xq hz hi,u3,p5]
end
theorem tu {α:Type} {enc:α->List ZQ} {sz:Nat} {w:ZZ} {A:Option Addr} {ls:List α} {xs:List ZQ} (h:bV w sz A (X ls) xs) (hA:Option.isNone A=Zj):ls= []:=by
  rcases s5 (X ls) with e | e
  . exact s6 e
  . have:=h.isSome e
    rw [this] at hA
    cases hA
theorem vQ (n k:Nat) (m:Int) (hm:m=((2 ^ k:Nat):Int)):Int.fdiv (n:Int) m=((n / 2 ^ k:Nat):Int):=by
  subst hm
  rw [Int.fdiv_eq_ediv_of_nonneg _ (Int.natCast_nonneg _)]
  rfl
end
section
open Go.RowKit
section
variable {P:Program} {ops:Array Oper} {Q:Exit->Act->ZZ->Prop} {ks:List Nat} {Good:ZZ->Prop} {n:Nat} {F:List (Nat × ZQ)} {w:ZZ} {op:Op} {ty:TypeId} {v:ZQ} {fuel:Nat} {l:List Nat} {pos:String} {aft:Array Edge} {d:Nat}
def qh (a b:List UInt8):List UInt8:=if a < b then b else a
theorem MB {x y:Operand} {ts:Array TypeId} {a b:List UInt8} (ha:wS F [x,y]=Zv [Z9 ⟨a.toArray⟩, Z9 ⟨b.toArray⟩]):Yl P n F w (.call ⟨.builtin .max, #[x,y],ts⟩) ty (Z9 ⟨Zb (qh a b)⟩):=λ ac hag o f _=>by
  unfold execOp
  rw [f]
  have he:=hag.evals ha
  have e:Lib.maxS ⟨a.toArray⟩ ⟨b.toArray⟩=⟨Zb (qh a b)⟩:=by
    unfold Lib.maxS qh
    by_cases h:a < b <;> simp [h]
  simp [resolve,Act.eval,Deferred.ofValue,invoke,he,builtin,Lib.run_max_strs,Result.andThen,e]
def GY (P:Program) (ops:Array Oper) (Q:Exit->Act->ZZ->Prop) (ks:List Nat) (Good:ZZ->Prop) (fuel:Nat) (l:List Nat) (n:Nat) (F:List (Nat × ZQ)) (w:ZZ) (i:Nat):Prop:=
  bJ Q->Region.noSelect ops=Zj->GO P ops Q (lX ks Good) fuel (kX ops.size l) n F w i
theorem GY.do (i:Nat) (hi:ops[i]? =Zv ⟨Zv d,op,ty,pos,aft,Zk⟩) (hk:Nat.blt d n=Zj)
    (h:Do P n F w op ty λ v w'=>(ks.any (λ k=>(kX ops.size (i::l)).getD k O)=Zj\/Good w')/\GX P ops Q ks Good fuel (i::l) n ((d,v)::F) w'):GY P ops Q ks Good fuel l n F w i:=λ hQ hs=>
  GO.do hi hk Z (h.mono λ v w' k=>⟨k.1,k.2 hQ hs⟩)
theorem Nq (i:Nat) (hi:ops[i]? =Zv ⟨Zk,op,ty,pos,aft,Zk⟩) (hk:Zj=Zj)
    (h:Do P n F w op ty λ _ w'=>(ks.any (λ k=>(kX ops.size (i::l)).getD k O)=Zj\/Good w')/\GX P ops Q ks Good fuel (i::l) n F w'):GY P ops Q ks Good fuel l n F w i:=λ hQ hs=>
  MV hi Z (h.mono λ v w' k=>⟨k.1,k.2 hQ hs⟩)
end
end
section
open Go.RowKit
theorem Iy {F:List (Nat × ZQ)} {x:Operand} {r:Int} {i:Nat} (h:ev F x=Zv (.int .i64 r)) (e:r=((i:Nat):Int)):ev F x=Zv (.int .i64 ((i:Nat):Int)):=by rw [h,e]
end
section
open Go.RowKit
section
variable {w0 w:ZZ} {D:Nat->Prop} {L:List HP} {α β:Type}
theorem take_at {ds:List α} {i:Nat} {x:α} (hx:ds[i]? =Zv x):ds=Zf i ds++(x::Ze (i+1) ds):=by
  obtain⟨_,rfl⟩:=List.getElem?_eq_some_iff.1 hx
  rw [List.getElem_cons_drop,List.take_append_drop]
theorem Iz {ds:List α} {i:Nat} {x:α} (y:α) (hx:ds[i]? =Zv x):List.set ds i y=Zf i ds++(y::Ze (i+1) ds):=by
  obtain⟨hi,rfl⟩:=List.getElem?_eq_some_iff.1 hx
  exact List.set_eq_take_append_cons_drop.trans (by rw [ZJ hi])
theorem Lu {f:α->List HP} {ds:List α} {i:Nat} {x:α} (hx:ds[i]? =Zv x) (H:Own w0 D w (sepL (Zg f ds)::L)):
    Own w0 D w (f x++(sepL (Zg f (Zf i ds)++Zg f (Ze (i+1) ds))::L)):=by
  rw [take_at hx,List.flatMap_append,List.flatMap_cons] at H
  have e:((Zg f (Zf i ds)++(f x++Zg f (Ze (i+1) ds)))++L).Perm ((Zg f (Zf i ds)++Zg f (Ze (i+1) ds))++(f x++L)):=by
    rw [<- List.append_assoc, <- List.append_assoc]
    refine List.Perm.append_right L ?_
    rw [List.append_assoc,List.append_assoc]
    exact List.Perm.append_left _ List.perm_append_comm
  have b:=(H.flat.perm e).pack
  exact b.perm (by
    have:(sepL (Zg f (Zf i ds)++Zg f (Ze (i+1) ds))::(f x++L)).Perm (f x++(sepL (Zg f (Zf i ds)++Zg f (Ze (i+1) ds))::L)):=List.perm_middle.symm
    exact this)
theorem LJ {f:α->List HP} {ds:List α} {i:Nat} {x y:α} (hx:ds[i]? =Zv x)
    (H:Own w0 D w (f y++(sepL (Zg f (Zf i ds)++Zg f (Ze (i+1) ds))::L))):Own w0 D w (sepL (Zg f (List.set ds i y))::L):=by
  have b:=(H.perm List.perm_middle).flat
  have e:((Zg f (Zf i ds)++Zg f (Ze (i+1) ds))++(f y++L)).Perm ((Zg f (Zf i ds)++(f y++Zg f (Ze (i+1) ds)))++L):=by
    rw [<- List.append_assoc, <- List.append_assoc]
    refine List.Perm.append_right L ?_
    rw [List.append_assoc,List.append_assoc]
    exact List.Perm.append_left _ List.perm_append_comm
  rw [Iz y hx,List.flatMap_append,List.flatMap_cons]
  exact(b.perm e).pack
theorem fq {f:α->β} {ds:List α} {ls:List β} {i:Nat} {y:α} {z:β} (h:Zh f ds=ls) (hy:f y=z):Zh f (List.set ds i y)=List.set ls i z:=by
  rw [List.map_set,h,hy]
end
section
variable {α:Type} {enc:α->List ZQ} {sz:Nat} {A:Option Addr} {c:Nat} {l:List α}
inductive jS (sz:Nat) (A:Option Addr) (c:Nat) (l:List α):Option Addr->Nat->List α->Prop
  | nil:jS sz A c l Zk 0 []
  | refl:X l<=c->jS sz A c l A c l
  | cut {A1:Option Addr} {c1 k:Nat} {l1:List α}:jS sz A c l A1 c1 l1->k<=X l1->jS sz A c l (fA A1 k sz c1) (c1 - k) (Ze k l1)
theorem jS.le {A':Option Addr} {c':Nat} {l':List α} (h:jS sz A c l A' c' l'):X l'<=c'/\(c'<=c/\X l'<=X l):=by
  induction h with
  | nil=>exact⟨Nat.le_refl _,Nt _,Nt _⟩
  | refl h=>exact⟨h,Nat.le_refl _,Nat.le_refl _⟩
  | cut h hk ih=>rw [List.length_drop]; omega
theorem jS.rds {w:ZZ} {A':Option Addr} {c':Nat} {l':List α} (hz:∀ x,X (enc x)=sz) (hp:0 < sz) (h:jS sz A c l A' c' l') (hr:bV w sz A (X l) (Zg enc l)):bV w sz A' (X l') (Zg enc l'):=by
  induction h with
  | nil=>exact bV.nil _ _ _
  | refl h=>exact hr
  | cut h hk ih=>
    have:=h.le
    rw [List.length_drop]
    exact KP hz ih hk this.1 hp
theorem jS.trans {a b:Option Addr} {e f:Nat} {l1 l2:List α} (g:jS sz A c l a e l1) (h:jS sz a e l1 b f l2):jS sz A c l b f l2:=by
  induction h with
  | nil=>exact .nil
  | refl _=>exact g
  | cut _ hk ih=>exact ih.cut hk
end
section
variable {P:Program} {n:Nat} {F G:List (Nat × ZQ)} {w:ZZ} {Q:Exit->Act->ZZ->Prop} {c:Code}
def Un (P:Program) (c:Code) (Q:Exit->Act->ZZ->Prop):Nat->Act->ZZ->Prop
  | 0,_,_=>False
  | k+1,a,w=>c.wp P (Exit.then (λ a' w'=>Un P c Q k a' w') Q) a w
theorem Un.loop:∀ (m:Nat) (a:Act) (w:ZZ),Un P c Q m a w->∀ b k cs, ∃ e a' w',Q e a' w'/\Arrives P (lone (b.at a (.code c:: .inLoop c::k)) cs w) b k cs e a' w'
  | 0,_,_,h,_,_,_=>h.elim
  | m+1,a,w,h,b,k,cs=>by
    obtain⟨e,f,g,hq,harr⟩:=h b (.inLoop c::k) cs
    cases e with
    | normal=>
      obtain⟨j,o,p,i,harr2⟩:=Un.loop m f g hq b k cs
      exact⟨j,o,p,i, .of_steps (Steps.trans harr (.one step_inLoop)) harr2⟩
    | exit id=>exact⟨_,f,g,hq, .pass (x:= .inLoop c) Z (λ _ _=> .inl i2) harr⟩
    | goto l=>exact⟨_,f,g,hq, .pass (x:= .inLoop c) Z (λ _ _=> .inl i2) harr⟩
    | ret=>exact⟨_,f,g,hq, .pass (x:= .inLoop c) Z (λ _ _=> .inl i2) harr⟩
    | panic ch=>exact⟨_,f,g,hq, .pass (x:= .inLoop c) Z (λ _ _=> .inl i2) harr⟩
    | outgrown=>exact⟨_,f,g,hq, .pass (x:= .inLoop c) Z (λ _ _=> .inl i2) harr⟩
theorem Lf (m:Nat) (h:Wp P c n F w (Exit.then (λ a w=>Un P c Q m a w) Q)):Wp P (.loop c) n F w Q:=λ a ha b k cs=>by
  obtain⟨e,a',w',hq,harr⟩:=Un.loop (m+1) a w (h a ha) b k cs
  exact⟨e,a',w',hq, .of_steps (.one step_loop) harr⟩
theorem Nb {k:Nat} (G:List (Nat × ZQ)) (hs:yE G F) (h:Wp P c n G w (Exit.then (λ a w=>Un P c Q k a w) Q)):Fin (Exit.then (λ a w=>Un P c Q (k+1) a w) Q) .normal n F w:=λ a ha=>h a (ha.sub hs)
end
end
section
open Go.RowKit
section
variable {P:Program} {n:Nat} {F:List (Nat × ZQ)} {w0 w:ZZ} {D:Nat->Prop} {L:List HP} {op:Op} {ty:TypeId} {v:ZQ} {K:ZQ->ZZ->Prop} {x y:Operand} {Z7 t:TypeId} {xs vs ys news:List ZQ}
def dz (a b:Nat):Nat:=Zc (IntKind.u64.wrap (((BitVec.ofInt 64 (a:Int) ||| BitVec.ofInt 64 (b:Int)).toNat:Nat):Int))
theorem qi (a b:Nat):dz a b<=18446744073709551615:=by unfold dz; simp only [IntKind.wrap,IntKind.signed,IntKind.bits]; simp; omega
def qW (l n:Nat):Prop:=n *128 ^ l<=18446744073709551615
theorem qW.zero {n:Nat} (h:n<=18446744073709551615):qW 0 n:=by unfold qW; omega
theorem qW.step {l l' n:Nat} (h:qW l n) (hl:l'=l+1):qW l' (n / 128):=by
  subst hl
  unfold qW at *
  rw [Nat.pow_succ,Nat.mul_comm (128 ^ l) 128, <- Nat.mul_assoc]
  exact Nat.le_trans (Nat.mul_le_mul_right _ (Nat.div_mul_le_self n 128)) h
theorem qW.le {l n:Nat} (h:qW l n) (hn:128<=n):l<=8:=by
  unfold qW at h
  rcases Nat.lt_or_ge 8 l with a | a
  . have b:128 ^ 9<=128 ^ l:=Nat.pow_le_pow_right f7 a
    have e:=Nat.mul_le_mul hn b
    have f:128 *128 ^ 9=1180591620717411303424:=by decide
    omega
  . exact a
def BQ (n l:Nat):Prop:=1<=l/\∀ k,n < 128 ^ k *128->l<=k+1
theorem BQ.one {n l:Nat} (h:l=1):BQ n l:=⟨U,λ k _=>by omega⟩
theorem BQ.step {n l l':Nat} (hn: ¬ n < 128) (h:BQ (n / 128) l) (hl:l'=l+1):BQ n l':=
  ⟨U,λ k hk=>by
    cases k with
    | zero=>omega
    | succ k=>
      have a:n / 128 < 128 ^ k *128:=Nat.div_lt_of_lt_mul (by rw [Nat.pow_succ] at hk; omega)
      have:=h.2 k a
      omega⟩
end
end
section
variable {β:Type} [Bk β] {s:Sv β} {x:β}
end
section
open Go.RowKit
theorem dD {A:Option Addr} {m c sz:Nat} {xs:List ZQ} {t:TypeId} (w':ZZ) (h:Nat->Option Obj) (hr:row A m c xs t sz h) (_:∀ k o,h k=Zv o->w'.heap[k]? =Zv o):m<=c/\m<=9223372036854775807:=by
  obtain⟨_,hr⟩:=hr
  rcases hr with ⟨_,e,a⟩ | ⟨g,cur,fz,_,_,a,b,_⟩
  . omega
  . unfold maxLen at b; omega
section
variable {P:Program} {n:Nat} {F:List (Nat × ZQ)} {w w0:ZZ} {D:Nat->Prop} {L:List HP} {op:Op} {ty:TypeId} {ops:Array Oper} {rest:List Oper} {Q:Exit->Act->ZZ->Prop} {pos:String} {aft:Array Edge} {d:Nat}
theorem Kz (v:ZQ) (h:WL P ops Q rest n ((d,v)::F) w) (hd:Nat.blt d n=Zj:=by exact Z) (hk:known F op.operands.toList=Zj:=by exact Z) (hs:qF op=Zj:=by exact Z)
    (hr:∀ Z8,(execOp (oW F) ⟨Zk,op,ty, "", #[],Zk⟩).run P Z8= .ok (.value v) Z8:=by intro _; kernel_rfl):WL P ops Q (⟨Zv d,op,ty,pos,aft,Zk⟩::rest) n F w:=Kn hd hk hs hr h
theorem Gz (v:ZQ) {j t:Nat} {b b':Bool} (hb:b'=b) (h:WL P ops Q rest n ((d,v)::F) w) (hj:(ops[j]?).bind (·.dst)=Zv t:=by exact Z) (hv:look F t=Zv (Y b'):=by exact Z) (hd:Nat.blt d n=Zj:=by exact Z)
    (hk:known F op.operands.toList=Zj:=by exact Z) (hs:qF op=Zj:=by exact Z) (hr:∀ Z8,(execOp (oW F) ⟨Zk,op,ty, "", #[],Zk⟩).run P Z8= .ok (.value v) Z8:=by intro _; kernel_rfl):
    WL P ops Q (⟨Zv d,op,ty,pos,aft,Zv (j,b)⟩::rest) n F w:=KC hj hv hb hd (Lv hk hs hr) h
theorem Sz {j t:Nat} {b b':Bool} (hb:b'= !b) (h:WL P ops Q rest n ((d,undef)::F) w) (hj:(ops[j]?).bind (·.dst)=Zv t:=by exact Z) (hv:look F t=Zv (Y b'):=by exact Z) (hd:Nat.blt d n=Zj:=by exact Z):
    WL P ops Q (⟨Zv d,op,ty,pos,aft,Zv (j,b)⟩::rest) n F w:=Ma hj hv hb hd h
theorem QQ {j t:Nat}{b b':Bool}(h:WL P ops Q rest n ((d,undef)::F) w)(hj:(ops[j]?).bind (·.dst)=Zv t:=by exact Z)(hv:look F t=Zv (Y b'):=by exact Z)(hd:Nat.blt d n=Zj:=by exact Z)(hb:b'= !b:=by exact Z):WL P ops Q (⟨Zv d,op,ty,pos,aft,Zv (j,b)⟩::rest) n F w:=Sz hb h (hj:=hj) (hv:=hv) (hd:=hd)
theorem Lz (v:ZQ) {x:Operand} {Z7:TypeId} {g o:Nat} {cs:List ZQ} {t:TypeId} (H:Own w0 D w L) (i:Nat) (ha:∀ Z8,(isAgg Z7).run P Z8= .ok O Z8) (h:WL P ops Q rest n ((d,v)::F) w)
    (hi:L[i]? =Zv (blk g cs t):=by exact Z) (hx:ev F x=Zv (Zz (Zv ⟨g,o,Zk⟩)):=by exact Z) (hv:cs[o]? =Zv v:=by exact Z) (hd:Nat.blt d n=Zj:=by exact Z):
    WL P ops Q (⟨Zv d, .load Z7 x,ty,pos,aft,Zk⟩::rest) n F w:=WL.val hd (J5 hx (bO.one ha (Kw (H.cls hi) hv))) h
theorem Gl (v:ZQ) {x:Operand} {Z7:TypeId} {g o:Nat} {cs:List ZQ} {t:TypeId} {j q:Nat} {b b':Bool} (hb:b'=b) (H:Own w0 D w L) (i:Nat) (ha:∀ Z8,(isAgg Z7).run P Z8= .ok O Z8) (h:WL P ops Q rest n ((d,v)::F) w)
    (hi:L[i]? =Zv (blk g cs t):=by exact Z) (hx:ev F x=Zv (Zz (Zv ⟨g,o,Zk⟩)):=by exact Z) (hv:cs[o]? =Zv v:=by exact Z) (hj:(ops[j]?).bind (·.dst)=Zv q:=by exact Z) (hl:look F q=Zv (Y b'):=by exact Z) (hd:Nat.blt d n=Zj:=by exact Z):
    WL P ops Q (⟨Zv d, .load Z7 x,ty,pos,aft,Zv (j,b)⟩::rest) n F w:=KC hj hl hb hd (J5 hx (bO.one ha (Kw (H.cls hi) hv))) h
theorem La (cs:List ZQ) {x:Operand} {Z7:TypeId} {g o:Nat} {cs':List ZQ} {t:TypeId} (H:Own w0 D w L) (i:Nat) (ha:∀ Z8,(isAgg Z7).run P Z8= .ok Zj Z8) (hS:∀ Z8,(sizeOf Z7).run P Z8= .ok (X cs) Z8) (h:WL P ops Q rest n ((d, Zq cs.toArray)::F) w)
    (hi:L[i]? =Zv (blk g cs' t):=by exact Z) (hx:ev F x=Zv (Zz (Zv ⟨g,o,Zk⟩)):=by exact Z) (hv:(cs'.drop o).take (X cs)=cs:=by exact Z) (hd:Nat.blt d n=Zj:=by exact Z):
    WL P ops Q (⟨Zv d, .load Z7 x,ty,pos,aft,Zk⟩::rest) n F w:=WL.val hd (J5 hx (J7 ha hS (by have:=(H.cls hi).lit (k:=o) hv; rwa [Nat.zero_add] at this))) h
theorem Ga (cs:List ZQ) {x:Operand} {Z7:TypeId} {g o:Nat} {cs':List ZQ} {t:TypeId} {j q:Nat} {b b':Bool} (hb:b'=b) (H:Own w0 D w L) (i:Nat) (ha:∀ Z8,(isAgg Z7).run P Z8= .ok Zj Z8) (hS:∀ Z8,(sizeOf Z7).run P Z8= .ok (X cs) Z8) (h:WL P ops Q rest n ((d, Zq cs.toArray)::F) w)
    (hi:L[i]? =Zv (blk g cs' t):=by exact Z) (hx:ev F x=Zv (Zz (Zv ⟨g,o,Zk⟩)):=by exact Z) (hv:(cs'.drop o).take (X cs)=cs:=by exact Z) (hj:(ops[j]?).bind (·.dst)=Zv q:=by exact Z) (hl:look F q=Zv (Y b'):=by exact Z) (hd:Nat.blt d n=Zj:=by exact Z):
    WL P ops Q (⟨Zv d, .load Z7 x,ty,pos,aft,Zv (j,b)⟩::rest) n F w:=KC hj hl hb hd (J5 hx (J7 ha hS (by have:=(H.cls hi).lit (k:=o) hv; rwa [Nat.zero_add] at this))) h
end
section
variable {α γ:Type}
theorem Dw {ds:List α} {i:Nat} {x:α} (y:α) (hx:ds[i]? =Zv x):List.set ds i y=Zf i ds++y::Ze (i+1) ds:=by
  obtain⟨hi,_⟩:=List.getElem?_eq_some_iff.1 hx
  rw [List.set_eq_take_append_cons_drop,ZJ hi]
theorem FX {ds:List α} {i:Nat} {x:α} (hx:ds[i]? =Zv x):ds=Zf i ds++x::Ze (i+1) ds:=by
  rw [<- (Dw x hx)]
  obtain⟨_,e⟩:=List.getElem?_eq_some_iff.1 hx
  rw [<- e,List.set_getElem_self]
theorem mM {f:α->List γ} {ds:List α} {i:Nat} {x y:α} (hx:ds[i]? =Zv x) (h:f y=f x):Zg f (List.set ds i y)=Zg f ds:=by
  rw [Dw y hx,List.flatMap_append,List.flatMap_cons,h]
  conv=>rhs; rw [FX hx,List.flatMap_append,List.flatMap_cons]
end
theorem BR {w:ZZ} {sz n m:Nat} {A:Option Addr} {xs:List ZQ} (e:n=m) (h:bV w sz A n xs):bV w sz A m xs:=by subst e; exact h
theorem Mf {α:Type} {sz:Nat} {A:Option Addr} {c:Nat} {l:List α} {A':Option Addr} {c':Nat} {l':List α} {x:α} (h:jS sz A c l A' c' l') (hx:x ∈ l'):x ∈ l:=by
  induction h with
  | nil=>cases hx
  | refl _=>exact hx
  | cut _ _ ih=>exact ih (List.mem_of_mem_drop hx)
end
section
open Go.RowKit
section
variable {P:Program} {n:Nat} {F:List (Nat × ZQ)} {w w0:ZZ} {D:Nat->Prop} {L:List HP} {op:Op} {ty:TypeId} {ops:Array Oper} {rest:List Oper} {Q:Exit->Act->ZZ->Prop} {pos:String} {aft:Array Edge} {d:Nat} {v:ZQ} {x:Operand} {K:Act->ZZ->Prop}
theorem nt {y:Code} (h:Wp P y n F w Q):WL P ops (Exit.then (λ a w=>y.wp P Q a w) Q) [] n F w:=WL.nil (JY h)
theorem sr {i:Nat} {l:List Oper} {y:Code} (h:WL P l.toArray (Exit.then (λ a w=>y.wp P Q a w) Q) l n F w):Wp P (.seq (.region i l.toArray O) y) n F w Q:=JS (JW h)
theorem ns {i:Nat} {l:List Oper} {y:Code} (h:WL P l.toArray (Exit.then (λ a w=>y.wp P Q a w) Q) l n F w):WL P ops (Exit.then (λ a w=>(Code.seq (.region i l.toArray O) y).wp P Q a w) Q) [] n F w:=nt (sr h)
theorem Az (hx:ev F x=Zv v) (h:WL P ops Q rest n ((d,v)::F) w) (hd:m2 d n=Zj:=by exact Z):WL P ops Q (⟨Zv d, .assign x,ty,pos,aft,Zk⟩::rest) n F w:=As hd hx h
theorem Mz (hx:ev F x=Zv v) (h:WL P ops Q rest n ((d,v)::F) w) (hd:m2 d n=Zj:=by exact Z):WL P ops Q (⟨Zv d, .move x,ty,pos,aft,Zk⟩::rest) n F w:=Mv hd hx h
theorem An {y:Code} (hx:ev F x=Zv v) (h:Wp P y n ((d,v)::F) w Q) (hd:m2 d n=Zj:=by exact Z):WL P ops (Exit.then (λ a w=>y.wp P Q a w) Q) [⟨Zv d, .assign x,ty,pos,aft,Zk⟩] n F w:=As hd hx (nt h)
theorem Ar {i:Nat} {l:List Oper} {y:Code} (hx:ev F x=Zv v) (h:WL P l.toArray (Exit.then (λ a w=>y.wp P Q a w) Q) l n ((d,v)::F) w) (hd:m2 d n=Zj:=by exact Z):WL P ops (Exit.then (λ a w=>(Code.seq (.region i l.toArray O) y).wp P Q a w) Q) [⟨Zv d, .assign x,ty,pos,aft,Zk⟩] n F w:=As hd hx (ns h)
theorem Mn {y:Code} (hx:ev F x=Zv v) (h:Wp P y n ((d,v)::F) w Q) (hd:m2 d n=Zj:=by exact Z):WL P ops (Exit.then (λ a w=>y.wp P Q a w) Q) [⟨Zv d, .move x,ty,pos,aft,Zk⟩] n F w:=Mv hd hx (nt h)
theorem jT {c:Operand} {x y:Code} {b:Bool} (hb:b=Zj) (ht:Wp P x n F w Q) (hc:ev F c=Zv (Y b):=by exact Z):Wp P (.cond c x y) n F w Q:=L8 hc hb ht
theorem jF {c:Operand} {x y:Code} {b:Bool} (hb:b=O) (hf:Wp P y n F w Q) (hc:ev F c=Zv (Y b):=by exact Z):Wp P (.cond c x y) n F w Q:=L9 hc hb hf
theorem jt {c:Operand} {x y:Code} (ht:Wp P x n F w Q) (hc:ev F c=Zv (Y Zj):=by exact Z):Wp P (.cond c x y) n F w Q:=L8 hc Z ht
theorem jf {c:Operand} {x y:Code} (hf:Wp P y n F w Q) (hc:ev F c=Zv (Y O):=by exact Z):Wp P (.cond c x y) n F w Q:=L9 hc Z hf
theorem dT {p:Prop} [i:Decidable p] (h:p):Zw p=Zj:=decide_eq_true h
theorem dF {p:Prop} [i:Decidable p] (h: ¬ p):Zw p=O:=decide_eq_false h
theorem V {α:Type} {a b c:α} (h:a=b) (k:b=c):a=c:=h.trans k
theorem ip {c:Prop} [h:Decidable c] (hc:c) {α:Type} {t e:α}:ite c t e=t:=ZJ hc
theorem iN {c:Prop} [h:Decidable c] (hc: ¬ c) {α:Type} {t e:α}:ite c t e=e:=ZK hc
theorem fw (v:ZQ) (hy:Yl P n F w op ty v) (h:WL P ops Q rest n ((d,v)::F) w) (hd:m2 d n=Zj:=by exact Z):WL P ops Q (⟨Zv d,op,ty,pos,aft,Zk⟩::rest) n F w:=WL.val hd hy h
theorem yk (hk:known F op.operands.toList=Zj:=by exact Z) (hs:qF op=Zj:=by exact Z) (hr:∀ Z8,(execOp (oW F) ⟨Zk,op,ty, "", #[],Zk⟩).run P Z8= .ok (.value v) Z8:=by intro _; kernel_rfl):Yl P n F w op ty v:=Lv hk hs hr
theorem cu (vs:List ZQ) (o:Nat) {Z7:TypeId} {y:Operand} {g:Nat} {cs:List ZQ} {t:TypeId} (H:Own w0 D w (blk g cs t::L)) (hS:∀ Z8,(sizeOf Z7).run P Z8= .ok (X vs) Z8) (h:∀ w',Own w0 D w' (blk g (put cs o vs) t::L)->WL P ops Q rest n F w')
    (hx:ev F x=Zv (Zz (Zv ⟨g,o,Zk⟩)):=by exact Z) (hy:ev F y=Zv v:=by exact Z) (hv:v.cells=vs.toArray:=by exact Z) (a:vs.all Value.oneCell'=Zj:=by exact Z) (hf:Nat.ble (o+X vs) (X cs)=Zj:=by exact Z):
    WL P ops Q (⟨Zk, .store Z7 x y,ty,pos,aft,Zk⟩::rest) n F w:=KO (Do.store H hx hy hS hv a hf Z h)
theorem cB (cs:List ZQ) (t:TypeId) (H:Own w0 D w L) (h:∀ g w',Own w0 D w' (blk g cs t::L)->WL P ops Q rest n ((d, Zz (Zv ⟨g,0,Zk⟩))::F) w') (hd:m2 d n=Zj:=by exact Z) (hk:known F op.operands.toList=Zj:=by exact Z) (a:qF op=Zj:=by exact Z)
    (hr:∀ Z8,(execOp (oW F) ⟨Zk,op,ty, "", #[],Zk⟩).run P Z8= .ok (.value (Zz (Zv ⟨Z8.heap.size,0,Zk⟩))) (Z8.alloc (.cells cs.toArray t (0,0))):=by intro _; kernel_rfl):WL P ops Q (⟨Zv d,op,ty,pos,aft,Zk⟩::rest) n F w:=WL.do hd (Mm H hk a hr h)
theorem j6 (cs:List ZQ) (t:TypeId) (sz m:Nat) (H:Own w0 D w L) (h:∀ A w',Own w0 D w' (row A m m cs t sz::L)->WL P ops Q rest n ((d, T A m m)::F) w') (hd:m2 d n=Zj:=by exact Z) (hk:known F op.operands.toList=Zj:=by exact Z) (a:qF op=Zj:=by exact Z)
    (hr:∀ Z8,(execOp (oW F) ⟨Zk,op,ty, "", #[],Zk⟩).run P Z8= .ok (.value (T (Zv ⟨Z8.heap.size,0,Zk⟩) m m)) (Z8.alloc (.cells cs.toArray t (0,0))):=by intro _; kernel_rfl) (hl:X cs=m *sz:=by exact Z) (hm:m<=4294967296:=by decide):
    WL P ops Q (⟨Zv d,op,ty,pos,aft,Zk⟩::rest) n F w:=WL.do hd (KF H hk a hr hl hm h)
theorem cl {f:FuncId} {args:List Operand} {vals:List ZQ} {tys:Array TypeId} {R:ZQ->ZZ->Prop} (hf:∀ (b:Array ZQ) Z8,(callFunc f b).run P Z8= .ok (.enter f b) Z8) (hc:Calls P f vals.toArray w (dI R)) (h:∀ v w',R v w'->WL P ops Q rest n ((d,v)::F) w')
    (hd:m2 d n=Zj:=by exact Z) (ha:wS F args=Zv vals:=by exact Z):WL P ops Q (⟨Zv d, .call ⟨.value (.func f),args.toArray,tys⟩,ty,pos,aft,Zk⟩::rest) n F w:=WL.do hd (Ki hf ha hc h)
theorem rs {fn:Func} {R:ZQ->ZZ->Prop} {t:Tmp} (h:R v w) (hr:fn.results= #[.tmp t]:=by exact Z) (hv:look F t=Zv v:=by exact Z):Fin (bodyPost P fn (dI R)) .ret n F w:=Ke (Jy hr hv) h
theorem Ku {x y:HP} (h:x=y) (H:Own w0 D w (x::L)):Own w0 D w (y::L):=h ▸ H
theorem Own.pk {L':List HP} (H:Own w0 D w L) (idx:List Nat) (hn:idx.Nodup:=by decide) (hp:Go.Proofs.YtnpdpklckacpnaaGreat.pk L idx=Zv L':=by exact Z):Own w0 D w L':=H.pick idx hn hp
theorem cn {a b:Bool} (h:a=b):(!a)=(!b):=ZX not h
theorem gw (v:ZQ) {j t:Nat} {b b':Bool} (hb:b'=b) (hy:Yl P n F w op ty v) (h:WL P ops Q rest n ((d,v)::F) w) (hj:(ops[j]?).bind (·.dst)=Zv t:=by exact Z) (hv:look F t=Zv (Y b'):=by exact Z) (hd:m2 d n=Zj:=by exact Z):
    WL P ops Q (⟨Zv d,op,ty,pos,aft,Zv (j,b)⟩::rest) n F w:=KC hj hv hb hd hy h
theorem oI {j t:Nat} {b b':Bool} (hb:b'=b) {f:FuncId} {args:List Operand} {vals:List ZQ} {tys:Array TypeId} {R:ZQ->ZZ->Prop} (hf:∀ (b:Array ZQ) Z8,(callFunc f b).run P Z8= .ok (.enter f b) Z8) (hc:Calls P f vals.toArray w (dI R)) (h:∀ v w',R v w'->WL P ops Q rest n ((d,v)::F) w')
    (hj:(ops[j]?).bind (·.dst)=Zv t:=by exact Z) (hv:look F t=Zv (Y b'):=by exact Z) (hd:m2 d n=Zj:=by exact Z) (ha:wS F args=Zv vals:=by exact Z):WL P ops Q (⟨Zv d, .call ⟨.value (.func f),args.toArray,tys⟩,ty,pos,aft,Zv (j,b)⟩::rest) n F w:=KU hj hv hb hd (Ki hf ha hc h)
theorem sk {y:Code} (h:Wp P y n F w Q):Wp P .skip n F w (Exit.then (λ a w=>y.wp P Q a w) Q):=Ko (JY h)
theorem tR (h:Fin Q .ret n F w):Fin (Exit.then K Q) .ret n F w:=h
theorem bR {i:Nat} (h:Fin Q .ret n F w):Fin (Exit.inBlock i Q) .ret n F w:=h
theorem bN {i:Nat} (h:Fin Q .normal n F w):Fin (Exit.inBlock i Q) .normal n F w:=h
theorem rt (h:Fin Q .ret n F w):Wp P .ret n F w Q:=Wp.ret h
theorem bo {i:Nat} {c:Code} (h:Wp P c n F w (Exit.inBlock i Q)):Wp P (.block i c) n F w Q:=Wp.block h
end
theorem zq1 {α:Type}{a b:α}(h:a=b:=by with_reducible first|exact ip (by assumption)|exact iN (by assumption)|exact ae (by assumption)|exact ae (bG (by assumption))|exact eD (by assumption)):a=b:=h
theorem zq2 {α:Type}{a b c:α}(h:a=b:=by exact zq1)(k:b=c:=by exact zq1):a=c:=h.trans k
theorem zq3 {α:Type}{a b c:α}(h:a=b:=by exact zq1)(k:b=c:=by exact zq2):a=c:=h.trans k
theorem zq4 {α:Type}{a b c:α}(h:a=b:=by exact zq1)(k:b=c:=by exact zq3):a=c:=h.trans k
theorem zq5 {α:Type}{a b c:α}(h:a=b:=by exact zq1)(k:b=c:=by exact zq4):a=c:=h.trans k
theorem zq6 {α:Type}{a b c:α}(h:a=b:=by exact zq1)(k:b=c:=by exact zq5):a=c:=h.trans k
theorem zq7 {α:Type}{a b c:α}(h:a=b:=by exact zq1)(k:b=c:=by exact zq6):a=c:=h.trans k
theorem zq8 {α:Type}{a b c:α}(h:a=b:=by exact zq1)(k:b=c:=by exact zq7):a=c:=h.trans k
theorem zq9 {α:Type}{a b c:α}(h:a=b:=by exact zq1)(k:b=c:=by exact zq8):a=c:=h.trans k
theorem zq10 {α:Type}{a b c:α}(h:a=b:=by exact zq1)(k:b=c:=by exact zq9):a=c:=h.trans k
theorem zq11 {α:Type}{a b c:α}(h:a=b:=by exact zq1)(k:b=c:=by exact zq10):a=c:=h.trans k
theorem zq12 {α:Type}{a b c:α}(h:a=b:=by exact zq1)(k:b=c:=by exact zq11):a=c:=h.trans k
theorem zq13 {α:Type}{a b c:α}(h:a=b:=by exact zq1)(k:b=c:=by exact zq12):a=c:=h.trans k
theorem zq14 {α:Type}{a b c:α}(h:a=b:=by exact zq1)(k:b=c:=by exact zq13):a=c:=h.trans k
theorem zq15 {α:Type}{a b c:α}(h:a=b:=by exact zq1)(k:b=c:=by exact zq14):a=c:=h.trans k
theorem zq16 {α:Type}{a b c:α}(h:a=b:=by exact zq1)(k:b=c:=by exact zq15):a=c:=h.trans k
theorem zq17 {α:Type}{a b c:α}(h:a=b:=by exact zq1)(k:b=c:=by exact zq16):a=c:=h.trans k
theorem zq18 {α:Type}{a b c:α}(h:a=b:=by exact zq1)(k:b=c:=by exact zq17):a=c:=h.trans k
theorem zq19 {α:Type}{a b c:α}(h:a=b:=by exact zq1)(k:b=c:=by exact zq18):a=c:=h.trans k
theorem zq20 {α:Type}{a b c:α}(h:a=b:=by exact zq1)(k:b=c:=by exact zq19):a=c:=h.trans k
theorem zq21 {α:Type}{a b c:α}(h:a=b:=by exact zq1)(k:b=c:=by exact zq20):a=c:=h.trans k
theorem zq22 {α:Type}{a b c:α}(h:a=b:=by exact zq1)(k:b=c:=by exact zq21):a=c:=h.trans k
theorem zq23 {α:Type}{a b c:α}(h:a=b:=by exact zq1)(k:b=c:=by exact zq22):a=c:=h.trans k
theorem zq24 {α:Type}{a b c:α}(h:a=b:=by exact zq1)(k:b=c:=by exact zq23):a=c:=h.trans k
end
section
open Go.RowKit
section
variable {κ ν:Type} [DecidableEq κ]
def vC:List (κ × ν)->κ->Option ν
  | [],_=>Zk
  | (a,b)::r,k=>if a=k then Zv b else vC r k
def fe:List (κ × ν)->κ->ν->List (κ × ν)
  | [],k,v=> [(k,v)]
  | (a,b)::r,k,v=>if a=k then(k,v)::r else(a,b)::fe r k v
theorem xu:∀ {m:List (κ × ν)} {k:κ},(∀ p ∈ m,p.1≠k)->vC m k=Zk
  | [],_,_=>rfl
  | (a,b)::r,k,h=>by
    unfold vC
    rw [ZK (h _ b3)]
    exact xu λ p hp=>h p (.tail _ hp)
theorem Af:∀ {m:List (κ × ν)} {j:Nat} {k:κ} {v:ν},(m.map Prod.fst).Nodup->m[j]? =Zv (k,v)->vC m k=Zv v
  | [],_,_,_,_,h=>by simp at h
  | (a,b)::r,0,k,v,hn,h=>by
    simp only [List.getElem?_cons_zero,Option.some.injEq,Prod.mk.injEq] at h
    unfold vC
    rw [ZJ h.1,h.2]
  | (a,b)::r,j+1,k,v,hn,h=>by
    simp only [List.getElem?_cons_succ] at h
    simp only [List.map_cons,List.nodup_cons] at hn
    have hm:k ∈ r.map Prod.fst:=List.mem_map.2 ⟨(k,v),List.mem_of_getElem? h,Z⟩
    unfold vC
    rw [ZK (λ e:a=k=>hn.1 (by rw [e]; exact hm))]
    exact Af hn.2 h
theorem BS:∀ {m:List (κ × ν)} {k:κ} {v:ν},(∀ p ∈ m,p.1≠k)->fe m k v=m++ [(k,v)]
  | [],_,_,_=>rfl
  | (a,b)::r,k,v,h=>by
    unfold fe
    rw [ZK (h _ b3),BS λ p hp=>h p (.tail _ hp)]
    rfl
theorem Dx:∀ {m:List (κ × ν)} {j:Nat} {k:κ} {b v:ν},(m.map Prod.fst).Nodup->m[j]? =Zv (k,b)->fe m k v=m.set j (k,v)
  | [],_,_,_,_,_,h=>by simp at h
  | (a,c)::r,0,k,b,v,hn,h=>by
    simp only [List.getElem?_cons_zero,Option.some.injEq,Prod.mk.injEq] at h
    unfold fe
    rw [ZJ h.1]
    rfl
  | (a,c)::r,j+1,k,b,v,hn,h=>by
    simp only [List.getElem?_cons_succ] at h
    simp only [List.map_cons,List.nodup_cons] at hn
    have hm:k ∈ r.map Prod.fst:=List.mem_map.2 ⟨(k,b),List.mem_of_getElem? h,Z⟩
    unfold fe
    rw [ZK (λ e:a=k=>hn.1 (by rw [e]; exact hm)),Dx hn.2 h]
    rfl
theorem xw:∀ (m:List (κ × ν)) (k:κ) (v:ν),(m.map Prod.fst).Nodup->((fe m k v).map Prod.fst).Nodup/\∀ q,q ∈ (fe m k v).map Prod.fst->q=k\/q ∈ m.map Prod.fst
  | [],k,v,_=>⟨by simp [fe],λ q hq=> .inl (by simpa [fe] using hq)⟩
  | (a,b)::r,k,v,hn=>by
    simp only [List.map_cons,List.nodup_cons] at hn
    unfold fe
    by_cases h:a=k
    . subst h
      rw [ZJ Z]
      exact⟨by simp only [List.map_cons,List.nodup_cons]; exact hn,λ q hq=> .inr hq⟩
    . rw [ZK h]
      obtain⟨d,c⟩:=xw r k v hn.2
      refine⟨?_,λ q hq=> ?_⟩
      . simp only [List.map_cons,List.nodup_cons]
        refine⟨λ hm=> ?_,d⟩
        rcases c a hm with e | e
        . exact h e
        . exact hn.1 e
      . simp only [List.map_cons,List.mem_cons] at hq ⊢
        rcases hq with e | e
        . exact .inr (.inl e)
        . rcases c q e with e | e
          . exact .inl e
          . exact .inr (.inr e)
end
@[reducible] def kI (i:Int):Value:= .int .i64 i
structure Ah {κ:Type} (P:Program) (kt:TypeId) (ek:κ->Value):Prop where q::
  key:∃ d,P.underlying kt=Zv d/\∀ a,Go.MapKept.IsKey d (ek a)
  inj:∀ a b,ek a=ek b->a=b
  same:∀ a,Instr.sameBits 10000 (ek a) (ek a)=Zj
def nX {κ ν:Type} (g:Nat) (ek:κ->ZQ) (vv:ν->ZQ) (m:List (κ × ν)):HP:=λ h=>(m.map Prod.fst).Nodup/\∃ (es:Array MapEntry) (clock:Nat),h g=Zv (.map es clock)/\es.toList.map (λ e=>(e.key,e.val))=m.map λ p=>(ek p.1,vv p.2)
section
variable {κ ν:Type} [DecidableEq κ] {P:Program} {n:Nat} {F:List (Nat × ZQ)} {w0 w:ZZ} {D:Nat->Prop} {L:List HP} {ty t kt e:TypeId} {K:ZQ->ZZ->Prop} {x y q:Operand} {ek:κ->ZQ} {vv:ν->ZQ} {m:List (κ × ν)} {g i:Nat} {z:ZQ} {d0:ν}
theorem pG {kt:TypeId} (hk:P.underlying kt=Zv (.int .i64)):Ah P kt kI:=by
  refine⟨⟨_,hk,λ a=>by simp [Go.MapKept.IsKey]⟩,λ a b h=> ?_,λ a=> ?_⟩
  . injection h
  . simp [Instr.sameBits]
theorem Own.mapAt (H:Own w0 D w L) (hi:L[i]? =Zv (nX g ek vv m)) (K:Ah P kt ek) (k:κ):∃ es clock d,w.heap[g]? =Zv (.map es clock)/\es.toList.map (λ e=>(e.key,e.val))=m.map (λ p=>(ek p.1,vv p.2))/\(m.map Prod.fst).Nodup/\P.underlying kt=Zv d/\Go.MapKept.IsKey d (ek k)/\
    ((Instr.findNow d (ek k) es.toList 0=Zv Zk/\(∀ p ∈ m,p.1≠k))\/∃ j v,Instr.findNow d (ek k) es.toList 0=Zv (Zv (j,vv v))/\m[j]? =Zv (k,v)):=by
  obtain⟨h,⟨hn,es,clock,r,f⟩,s⟩:=H.get hi
  obtain⟨d,hd,hk⟩:=K.key
  refine⟨es,clock,d,s g _ r,f,hn,hd,hk k, ?_⟩
  have hkeys:∀ x ∈ es.toList,Go.MapKept.IsKey d x.key:=λ x hx=>by
    have:(x.key,x.val) ∈ m.map λ p=>(ek p.1,vv p.2):=by rw [<- f]; exact List.mem_map.2 ⟨x,hx,Z⟩
    obtain⟨p,_,hp⟩:=List.mem_map.1 this
    injection hp with hp _
    rw [<- hp]; exact hk _
  rcases Go.MapKept.findNow_spec (hk k) es.toList 0 hkeys with ⟨a,b⟩ | ⟨j,o,a,b,c⟩
  . refine .inl ⟨a,λ p hp e=> ?_⟩
    have:(ek p.1,vv p.2) ∈ es.toList.map λ e=>(e.key,e.val):=by rw [f]; exact List.mem_map.2 ⟨p,hp,Z⟩
    obtain⟨x,hx,he⟩:=List.mem_map.1 this
    injection he with he _
    exact b x hx (he.trans (by rw [e]))
  . rw [Nat.zero_add] at a
    have hj:(m.map λ p=>(ek p.1,vv p.2))[j]? =Zv (o.key,o.val):=by rw [<- f,List.getElem?_map,b]; rfl
    rw [List.getElem?_map] at hj
    cases hm:m[j]? with
    | none=>rw [hm] at hj; cases hj
    | some p=>
      rw [hm] at hj
      simp only [Option.map_some,Option.some.injEq,Prod.mk.injEq] at hj
      refine .inr ⟨j,p.2,by rw [a,hj.2], ?_⟩
      rw [hm, <- (K.inj _ _ (hj.1.trans c))]
theorem K3 {k:κ} {o:Option ν} (H:Own w0 D w L) (hi:L[i]? =Zv (nX g ek vv m)) (K:Ah P kt ek) (ht:P.underlying t=Zv (.map kt e)) (hz:∀ Z8,(zeroValue e).run P Z8= .ok (vv d0) Z8) (hx:ev F x=Zv (.map (Zv g))) (hy:ev F y=Zv (ek k)) (ho:vC m k=o):
    Yl P n F w (.lookup t x y Zj) ty (.tuple #[vv (o.getD d0), Y o.isSome]):=λ a ha op b _=>by
  subst ho
  obtain⟨es,clock,d,hb,_,hn,hd,hk,hf⟩:=H.mapAt hi K k
  unfold execOp
  rw [b]
  simp only [ha.eval hx,ha.eval hy]
  rcases hf with ⟨hf,hno⟩ | ⟨j,v,hf,hj⟩
  . rw [xu hno]
    simp [Instr.lookup,run_underlying ht,Go.MapKept.run_getObj_map hb,Go.MapKept.run_checkKey hd hk,Go.MapKept.run_findKey hd hf,hz w,Result.andThen]
  . rw [Af hn hj]
    simp [Instr.lookup,run_underlying ht,Go.MapKept.run_getObj_map hb,Go.MapKept.run_checkKey hd hk,Go.MapKept.run_findKey hd hf,Result.andThen]
theorem Nc {k:κ} {o:Option ν} (H:Own w0 D w L) (hi:L[i]? =Zv (nX g ek vv m)) (K:Ah P kt ek) (ht:P.underlying t=Zv (.map kt e)) (hz:∀ Z8,(zeroValue e).run P Z8= .ok (vv d0) Z8) (hx:ev F x=Zv (.map (Zv g))) (hy:ev F y=Zv (ek k)) (ho:vC m k=o):
    Yl P n F w (.lookup t x y O) ty (vv (o.getD d0)):=λ a ha op b _=>by
  subst ho
  obtain⟨es,clock,d,hb,_,hn,hd,hk,hf⟩:=H.mapAt hi K k
  unfold execOp
  rw [b]
  simp only [ha.eval hx,ha.eval hy]
  rcases hf with ⟨hf,hno⟩ | ⟨j,v,hf,hj⟩
  . rw [xu hno]
    simp [Instr.lookup,run_underlying ht,Go.MapKept.run_getObj_map hb,Go.MapKept.run_checkKey hd hk,Go.MapKept.run_findKey hd hf,hz w,Result.andThen]
  . rw [Af hn hj]
    simp [Instr.lookup,run_underlying ht,Go.MapKept.run_getObj_map hb,Go.MapKept.run_checkKey hd hk,Go.MapKept.run_findKey hd hf,Result.andThen]
theorem Own.mapSet {m':List (κ × ν)} {es':Array MapEntry} {clock':Nat} (H:Own w0 D w (nX g ek vv m::L)) (hn:(m'.map Prod.fst).Nodup) (he:es'.toList.map (λ e=>(e.key,e.val))=m'.map λ p=>(ek p.1,vv p.2)):
    Own w0 D { w with heap:=w.heap.setIfInBounds g (.map es' clock') } (nX g ek vv m'::L):=by
  refine H.upd Z Z Z i2 λ h ⟨_,es,clock,b,_⟩ hk=> ?_
  obtain⟨c,d⟩:=Go.MapKept.heap_set (o':=Obj.map es' clock') (hk g _ b)
  refine⟨λ k=>if k=g then Zv (.map es' clock') else Zk,⟨hn,es',clock',by simp,he⟩,λ k o hk'=> ?_,λ k f a=> ?_⟩
  . by_cases e:k=g
    . subst e
      simp only [if_true,Option.some.injEq] at hk'
      subst hk'
      exact⟨c, .inl (by rw [b]; exact Option.some_ne_none _)⟩
    . simp only [e,if_false] at hk'; cases hk'
  . exact d k (λ e=>by subst e; rw [b] at a; cases a)
theorem Mg {k:κ} {v:ν} (H:Own w0 D w (nX g ek vv m::L)) (K':Ah P kt ek) (ht:P.underlying t=Zv (.map kt e)) (hx:ev F x=Zv (.map (Zv g))) (hy:ev F y=Zv (ek k)) (hq:ev F q=Zv (vv v))
    (h:∀ w',Own w0 D w' (nX g ek vv (fe m k v)::L)->K undef w'):Do P n F w (.mapUpdate t x y q) ty K:=λ a ha op b c next Q hnx=>by
  obtain⟨es,clock,d,hb,he,hn,hd,hk,hf⟩:=H.mapAt (i:=0) Z K' k
  unfold execOp
  rw [b]
  simp only [ha.eval hx,ha.eval hy,ha.eval hq]
  rcases hf with ⟨hf,hno⟩ | ⟨j,u,hf,hj⟩
  . have hrun:(Instr.mapUpdate t (.map (Zv g)) (ek k) (vv v)).run P w= .ok () { w with heap:=w.heap.setIfInBounds g (.map (es.push { key:=ek k,val:=vv v,born:=clock }) (clock+1)) }:=by
      simp [Instr.mapUpdate,run_underlying ht,Go.MapKept.run_getObj_map hb,Go.MapKept.run_checkKey hd hk,Go.MapKept.run_findKey hd hf,Go.MapKept.run_setObj_map _ hb,Result.andThen]
    have H':=H.mapSet (m':=fe m k v) (es':=es.push { key:=ek k,val:=vv v,born:=clock }) (clock':=clock+1) (xw m k v hn).1 (by rw [BS hno,Array.toList_push,List.map_append,List.map_append,he]; rfl)
    simp only [Sem.run_bind,Sem.run_pure,Result.andThen_ok,hrun]
    exact hnx _ _ (h _ H')
  . have hj':(es.toList.map λ e=>(e.key,e.val))[j]? =Zv (ek k,vv u):=by rw [he,List.getElem?_map,hj]; rfl
    rw [List.getElem?_map,Array.getElem?_toList] at hj'
    cases hej:es[j]? with
    | none=>rw [hej] at hj'; cases hj'
    | some f=>
      rw [hej] at hj'
      simp only [Option.map_some,Option.some.injEq,Prod.mk.injEq] at hj'
      have hks:(Instr.keyThatStays (((es[j]?).map (·.key)).getD (ek k)) (ek k)).run P w= .ok (ek k) w:=by
        unfold Instr.keyThatStays
        rw [hej]
        simp only [Option.map_some,Option.getD_some,hj'.1,K'.same k,if_true]
        rfl
      have hrun:(Instr.mapUpdate t (.map (Zv g)) (ek k) (vv v)).run P w= .ok () { w with heap:=w.heap.setIfInBounds g (.map (es.modify j λ e=> { e with key:=ek k,val:=vv v }) clock) }:=by
        simp only [Instr.mapUpdate,Sem.run_bind,run_underlying ht,Go.MapKept.run_getObj_map hb,Go.MapKept.run_checkKey hd hk,Go.MapKept.run_findKey hd hf,Result.andThen_ok,hks,Go.MapKept.run_setObj_map _ hb]
      have hset:(es.modify j λ e=> { e with key:=ek k,val:=vv v }).toList.map (λ e=>(e.key,e.val))=(fe m k v).map λ p=>(ek p.1,vv p.2):=by
        rw [Dx hn hj]
        apply List.ext_getElem?
        intro l
        have hel:(es.toList.map λ e=>(e.key,e.val))[l]? =(m.map λ p=>(ek p.1,vv p.2))[l]? :=by rw [he]
        simp only [List.getElem?_map,Array.getElem?_toList,Array.getElem?_modify,List.getElem?_set] at hel ⊢
        by_cases hjl:j=l
        . subst hjl
          simp [hej,((List.getElem?_eq_some_iff.1 hj).1)]
        . simp only [hjl,if_false]
          exact hel
      simp only [Sem.run_bind,Sem.run_pure,Result.andThen_ok,hrun]
      exact hnx _ _ (h _ (H.mapSet (m':=fe m k v) (clock':=clock) (xw m k v hn).1 hset))
theorem Ms (ek:κ->ZQ) (vv:ν->ZQ) (H:Own w0 D w L) (h:∀ g w',Own w0 D w' (nX g ek vv ([]:List (κ × ν))::L)->K (.map (Zv g)) w'):Do P n F w (.makeMap t Zk) ty K:=λ a ha op b c next Q hnx=>by
  unfold execOp
  rw [b]
  have hrun:(Instr.makeMap t Zk).run P w= .ok (.map (Zv w.heap.size)) (w.alloc (.map #[] 0)):=by
    simp [Instr.makeMap,Result.andThen]
  simp only [Option.map_none,Sem.run_bind,Sem.run_pure,Result.andThen_ok,hrun]
  exact hnx _ _ (h _ _ (H.alloc _ ⟨by simp, #[],0,by simp,Z⟩))
end
end
section
open Go.RowKit
section
variable {κ:Type} [DecidableEq κ] {P:Program} {kt:TypeId} {ek:κ->ZQ}
end
section
variable {P:Program} {t:TypeId} {k:IntKind}
end
section
variable {κ ν δ τ:Type} [DecidableEq κ]
theorem getD_some {o:Option ν} {d x:ν} (h:o=Zv x):Option.getD o d=x:=by rw [h]; rfl
end
section
variable {κ ν:Type} [DecidableEq κ] {P:Program} {n:Nat} {F:List (Nat × ZQ)} {w0 w:ZZ} {D:Nat->Prop} {L:List HP} {ty t kt e:TypeId} {K:ZQ->ZZ->Prop} {x y q:Operand} {ek:κ->ZQ} {vv:ν->ZQ} {m:List (κ × ν)} {g i:Nat} {z:ZQ} {d0:ν}
end
section
variable {κ δ τ:Type} [DecidableEq κ] {abs:δ->τ} {m:List (κ × δ)} {mab:List (κ × τ)} {k:κ}
end
end
section
open Go.RowKit
section
variable {P:Program} {n:Nat} {F:List (Nat × ZQ)} {w:ZZ} {ty:TypeId} {x y:Operand}
end
end
open List renaming getElem?_append_left->v8,length_singleton->v2,mem_append_right->v7,mem_cons->v1,nodup_append->v6
section
open Go.RowKit
def mb (k:Nat):List Nat->Bool
  | []=>O
  | j::r=>bif j8 k j then Zj else mb k r
theorem rZ {k:Nat}:∀ {xs:List Nat},mb k xs=Zj↔k ∈ xs
  | []=>by simp [mb]
  | j::r=>by
    unfold mb
    by_cases e:k=j
    . subst e; simp
    . have:j8 k j=O:=by
        rw [Bool.eq_false_iff]; intro hh; exact e (l4 hh)
      rw [this,cond_false,rZ,v1]
      exact⟨.inr,λ h=>h.resolve_left e⟩
def EF (xs:List Nat):Nat->List HP->Option (List HP)
  | _, []=>Zv []
  | k,R::r=>match EF xs (k+1) r with
    | some q=>bif mb k xs then Zv q else Zv (R::q)
    | none=>Zk
def EG:List HP->List HP->Option (List HP)
  | [],b=>Zv b
  | R::a,b=>match EG a b with
    | some q=>Zv (R::q)
    | none=>Zk
theorem BU:∀ (a b:List HP),EG a b=Zv (a++b)
  | [],b=>rfl
  | R::a,b=>by simp only [EG,BU a b,List.cons_append]
def px (L:List HP) (f dr b:List Nat):Option (List HP):=match pk L f with
  | some A=>match EF (f++(dr++b)) 0 L with
    | some M=>match pk L b with
      | some B=>match EG M B with
        | some q=>EG A q
        | none=>Zk
      | none=>Zk
    | none=>Zk
  | none=>Zk
def zt (xs:List Nat):Nat->List HP->List Nat
  | _, []=> []
  | k,_::r=>bif mb k xs then zt xs (k+1) r else k::zt xs (k+1) r
theorem yg {xs:List Nat}:∀ (r:List HP) (k j:Nat),j ∈ zt xs k r->k<=j/\j ∉ xs
  | [],k,j,h=>by cases h
  | R::r,k,j,h=>by
    unfold zt at h
    cases e:mb k xs with
    | true=>rw [e,cond_true] at h; have:=yg r (k+1) j h; exact⟨U,this.2⟩
    | false=>
      rw [e,cond_false] at h
      rcases v1.1 h with rfl | h
      . exact⟨Nat.le_refl _,λ hm=>by rw [rZ.2 hm] at e; cases e⟩
      . have:=yg r (k+1) j h; exact⟨U,this.2⟩
theorem xx {xs:List Nat}:∀ (r:List HP) (k:Nat),(zt xs k r).Nodup
  | [],k=>List.nodup_nil
  | R::r,k=>by
    unfold zt
    cases e:mb k xs with
    | true=>rw [cond_true]; exact xx r (k+1)
    | false=>
      rw [cond_false,List.nodup_cons]
      exact⟨λ h=>by have:=(yg r (k+1) k h).1; omega,xx r (k+1)⟩
theorem Dy {L:List HP} {i:Nat} {r:List Nat} {R:HP} {s:List HP} (a:L[i]? =Zv R) (b:pk L r=Zv s):pk L (i::r)=Zv (R::s):=by
  unfold pk; rw [a,b]
theorem BV {L:List HP}:∀ {a b:List Nat} {A B:List HP},pk L a=Zv A->pk L b=Zv B->pk L (a++b)=Zv (A++B)
  | [],b,A,B,c,e=>by simp only [pk,Option.some.injEq] at c; subst c; exact e
  | i::r,b,A,B,c,e=>by
    unfold pk at c
    split at c
    . rename_i R0 s g h
      simp only [Option.some.injEq] at c
      subst c
      exact Dy g (BV h e)
    . cases c
theorem EH {xs:List Nat} {L:List HP}:∀ (r pre:List HP) (M:List HP),L=pre++r->EF xs (X pre) r=Zv M->pk L (zt xs (X pre) r)=Zv M
  | [],pre,M,hL,h=>by simp only [EF,Option.some.injEq] at h; subst h; rfl
  | R::r,pre,M,hL,h=>by
    unfold EF at h
    split at h
    . rename_i q hq
      have a:=EH (L:=L) r (pre++ [R]) q (by rw [hL,List.append_assoc]; rfl) (by rw [o3,v2]; exact hq)
      rw [o3,v2] at a
      unfold zt
      cases e:mb (X pre) xs with
      | true=>rw [e,cond_true,Option.some.injEq] at h; subst h; rw [cond_true]; exact a
      | false=>
        rw [e,cond_false,Option.some.injEq] at h; subst h; rw [cond_false]
        exact Dy (by rw [hL,List.getElem?_append_right (Nat.le_refl _),Nat.sub_self]; rfl) a
    . cases h
section
variable {w0 w:ZZ} {D:Nat->Prop} {L:List HP}
theorem Own.px {L':List HP} (H:Own w0 D w L) (f dr b:List Nat) (hn:(f++b).Nodup:=by decide) (hp:px L f dr b=Zv L':=by exact Z):Own w0 D w L':=by
  unfold Go.Proofs.YtnpdpklckacpnaaGreat.px at hp
  split at hp
  . rename_i A hA
    split at hp
    . rename_i M hM
      split at hp
      . rename_i B hB
        rw [BU] at hp
        dsimp only at hp
        rw [BU,Option.some.injEq] at hp
        subst hp
        have hi:=yg (xs:=f++(dr++b)) L 0
        rw [v6] at hn
        refine H.pick (f++(zt (f++(dr++b)) 0 L++b)) ?_ (BV hA (BV (EH (pre:= []) L M Z hM) hB))
        rw [v6,v6]
        refine⟨hn.1,⟨xx _ _,hn.2.1,λ x hx y hy e=>(hi x hx).2 ?_⟩,λ x hx y hy e=> ?_⟩
        . subst e; exact v7 _ (v7 _ hy)
        . subst e
          rcases List.mem_append.1 hy with h | h
          . exact(hi x h).2 (List.mem_append_left _ hx)
          . exact hn.2.2 x hx x h Z
      . cases hp
    . cases hp
  . cases hp
theorem Own.pf {L':List HP} (H:Own w0 D w L) (f:List Nat) (hn:(f++ []).Nodup:=by decide) (hp:Go.Proofs.YtnpdpklckacpnaaGreat.px L f [] []=Zv L':=by exact Z):Own w0 D w L':=H.px f [] [] hn hp
theorem Own.pb {L':List HP} (H:Own w0 D w L) (b:List Nat) (hn:([]++b).Nodup:=by decide) (hp:Go.Proofs.YtnpdpklckacpnaaGreat.px L [] [] b=Zv L':=by exact Z):Own w0 D w L':=H.px [] [] b hn hp
end
section
variable {α:Type} {w0 w:ZZ} {D:Nat->Prop} {L:List HP} {f:α->List HP}
theorem K7 {R0 R1 R2 R3:HP} (H:Own w0 D w (R0::R1::R2::R3::L)):∃ a:Nat->Prop,Own w a w [R0,R1,R2,R3]/\(∀ φ,Ro w0 D φ->Ro w a φ)/\(∀ w' L',Own w a w' L'->Own w0 D w' (L'++L))/\(∀ (φ:ZZ->Prop) (i:Nat) (R:HP),L[i]? =Zv R->(∀ w' h,R h->(∀ k o,h k=Zv o->w'.heap[k]? =Zv o)->φ w')->Ro w a φ):=Own.enter (L1:= [R0,R1,R2,R3]) (L2:=L) H
theorem Lh {R0 R1 R2 R3 R4:HP} (H:Own w0 D w (R0::R1::R2::R3::R4::L)):∃ a:Nat->Prop,Own w a w [R0,R1,R2,R3,R4]/\(∀ φ,Ro w0 D φ->Ro w a φ)/\(∀ w' L',Own w a w' L'->Own w0 D w' (L'++L))/\(∀ (φ:ZZ->Prop) (i:Nat) (R:HP),L[i]? =Zv R->(∀ w' h,R h->(∀ k o,h k=Zv o->w'.heap[k]? =Zv o)->φ w')->Ro w a φ):=Own.enter (L1:= [R0,R1,R2,R3,R4]) (L2:=L) H
theorem KS {R0 R1 R2 R3 R4 R5:HP} (H:Own w0 D w (R0::R1::R2::R3::R4::R5::L)):∃ a:Nat->Prop,Own w a w [R0,R1,R2,R3,R4,R5]/\(∀ φ,Ro w0 D φ->Ro w a φ)/\(∀ w' L',Own w a w' L'->Own w0 D w' (L'++L))/\(∀ (φ:ZZ->Prop) (i:Nat) (R:HP),L[i]? =Zv R->(∀ w' h,R h->(∀ k o,h k=Zv o->w'.heap[k]? =Zv o)->φ w')->Ro w a φ):=Own.enter (L1:= [R0,R1,R2,R3,R4,R5]) (L2:=L) H
theorem KT {R0 R1 R2 R3 R4 R5 c e g j a:HP} (H:Own w0 D w (R0::R1::R2::R3::R4::R5::c::e::g::j::a::L)):∃ b:Nat->Prop,Own w b w [R0,R1,R2,R3,R4,R5,c,e,g,j,a]/\(∀ φ,Ro w0 D φ->Ro w b φ)/\(∀ w' L',Own w b w' L'->Own w0 D w' (L'++L))/\(∀ (φ:ZZ->Prop) (i:Nat) (R:HP),L[i]? =Zv R->(∀ w' h,R h->(∀ k o,h k=Zv o->w'.heap[k]? =Zv o)->φ w')->Ro w b φ):=Own.enter (L1:= [R0,R1,R2,R3,R4,R5,c,e,g,j,a]) (L2:=L) H
theorem K4 {R0 R1 R2 R3 R4 R5 g j m p a b c:HP} (H:Own w0 D w (R0::R1::R2::R3::R4::R5::g::j::m::p::a::b::c::L)):∃ e:Nat->Prop,Own w e w [R0,R1,R2,R3,R4,R5,g,j,m,p,a,b,c]/\(∀ φ,Ro w0 D φ->Ro w e φ)/\(∀ w' L',Own w e w' L'->Own w0 D w' (L'++L))/\(∀ (φ:ZZ->Prop) (i:Nat) (R:HP),L[i]? =Zv R->(∀ w' h,R h->(∀ k o,h k=Zv o->w'.heap[k]? =Zv o)->φ w')->Ro w e φ):=Own.enter (L1:= [R0,R1,R2,R3,R4,R5,g,j,m,p,a,b,c]) (L2:=L) H
theorem Mj {R0 R1 R2 R3 R4 R5 j m p q a b c e:HP} (H:Own w0 D w (R0::R1::R2::R3::R4::R5::j::m::p::q::a::b::c::e::L)):∃ g:Nat->Prop,Own w g w [R0,R1,R2,R3,R4,R5,j,m,p,q,a,b,c,e]/\(∀ φ,Ro w0 D φ->Ro w g φ)/\(∀ w' L',Own w g w' L'->Own w0 D w' (L'++L))/\(∀ (φ:ZZ->Prop) (i:Nat) (R:HP),L[i]? =Zv R->(∀ w' h,R h->(∀ k o,h k=Zv o->w'.heap[k]? =Zv o)->φ w')->Ro w g φ):=Own.enter (L1:= [R0,R1,R2,R3,R4,R5,j,m,p,q,a,b,c,e]) (L2:=L) H
theorem Mk {R0 R1 R2 R3 R4 R5 m p q r a b c e g:HP} (H:Own w0 D w (R0::R1::R2::R3::R4::R5::m::p::q::r::a::b::c::e::g::L)):∃ j:Nat->Prop,Own w j w [R0,R1,R2,R3,R4,R5,m,p,q,r,a,b,c,e,g]/\(∀ φ,Ro w0 D φ->Ro w j φ)/\(∀ w' L',Own w j w' L'->Own w0 D w' (L'++L))/\(∀ (φ:ZZ->Prop) (i:Nat) (R:HP),L[i]? =Zv R->(∀ w' h,R h->(∀ k o,h k=Zv o->w'.heap[k]? =Zv o)->φ w')->Ro w j φ):=Own.enter (L1:= [R0,R1,R2,R3,R4,R5,m,p,q,r,a,b,c,e,g]) (L2:=L) H
theorem MM {A:Option Addr} {n n' c:Nat} {xs:List ZQ} {t:TypeId} {sz:Nat} (e:n=n') (H:Own w0 D w (row A n c xs t sz::L)):Own w0 D w (row A n' c xs t sz::L):=e ▸ H
end
def Dz:List Nat->List ZQ->Option (List (Nat × ZQ))
  | _, []=>Zv []
  | [],_::_=>Zk
  | k::ks,v::r=>match Dz ks r with
    | some q=>Zv ((k,v)::q)
    | none=>Zk
theorem EI:∀ (l:List ZQ) (k:Nat) (ks:List Nat) (F:List (Nat × ZQ)),(∀ i j:Nat,ks[i]? =Zv j->j=k+i)->Dz ks l=Zv F->Dq k l=F
  | [],k,ks,F,h,e=>by cases ks <;> (simp only [Dz,Option.some.injEq] at e; subst e; rfl)
  | v::r,k, [],F,h,e=>by simp only [Dz] at e; cases e
  | v::r,k,j::ks,F,h,e=>by
    unfold Dz at e
    split at e
    . rename_i q hq
      simp only [Option.some.injEq] at e
      have a:=h 0 j Z
      have:=EI r (k+1) ks q (λ i j hj=>by have:=h (i+1) j hj; omega) hq
      rw [<- e]
      unfold Dq
      rw [this,a]; rfl
    . cases e
def nums:List Nat:= [0,1,2,3,4,5,6,7,8,9,10,11,12,13,14,15,16,17,18,19]
theorem G9:∀ i j:Nat,nums[i]? =Zv j->j=0+i:=by
  intro i j h
  have hi:=(p2.1 h).1
  have hl:X nums=20:=Z
  rw [hl] at hi
  have:∀ i:Nat,i < 20->nums[i]? =Zv i:=by decide
  rw [this i hi,Option.some.injEq] at h
  omega
theorem cb {P:Program} {n:Nat} {w:ZZ} {f:FuncId} {fn:Func} {c:Code} {args:List ZQ} {G:List (Nat × ZQ)} {R:Ending->ZZ->Prop} (hf:P.funcs[f]? =Zv fn) (h:Wp P c n G w (bodyPost P fn R)) (hb:fn.body=Zv c:=by exact Z) (hn:fn.ntmps=n:=by exact Z) (hl:Nat.ble (X args) n=Zj:=by exact Z)
    (hG:Dz nums args=Zv G:=by exact Z):Calls P f args.toArray w R:=Mr hf hb hn hl (by rw [EI args 0 nums G G9 hG]; exact h)
abbrev vU (n:Nat):ZQ:= .int .u64 ((n:Nat):Int)
abbrev vJ (n:Nat):ZQ:= .int .i64 ((n:Nat):Int)
abbrev vI (x:Int):ZQ:= .int .i64 x
abbrev vP (g o:Nat):ZQ:= Zz (Zv ⟨g,o,Zk⟩)
theorem nI {a:Type} (B:a->ZZ->Prop):∃ q:(a)->ZZ->Prop, ∀ {b:a} {w':ZZ},q b w'↔B b w':=⟨λ x w'=>B x w',Iff.rfl⟩
theorem IA {a b:Type} (B:a->b->ZZ->Prop):∃ q:(a × b)->ZZ->Prop, ∀ {c:a} {e:b} {w':ZZ},q (c,e) w'↔B c e w':=⟨λ x w'=>B x.1 x.2 w',Iff.rfl⟩
theorem yG {a b c:Type} (B:a->b->c->ZZ->Prop):∃ q:(a × b × c)->ZZ->Prop, ∀ {e:a} {g:b} {h:c} {w':ZZ},q (e,g,h) w'↔B e g h w':=⟨λ x w'=>B x.1 x.2.1 x.2.2 w',Iff.rfl⟩
theorem uG {a b c e:Type} (B:a->b->c->e->ZZ->Prop):∃ q:(a × b × c × e)->ZZ->Prop, ∀ {g:a} {h:b} {j:c} {k:e} {w':ZZ},q (g,h,j,k) w'↔B g h j k w':=⟨λ x w'=>B x.1 x.2.1 x.2.2.1 x.2.2.2 w',Iff.rfl⟩
theorem GH {a b c e g:Type} (B:a->b->c->e->g->ZZ->Prop):∃ q:(a × b × c × e × g)->ZZ->Prop, ∀ {h:a} {j:b} {k:c} {m:e} {o:g} {w':ZZ},q (h,j,k,m,o) w'↔B h j k m o w':=⟨λ x w'=>B x.1 x.2.1 x.2.2.1 x.2.2.2.1 x.2.2.2.2 w',Iff.rfl⟩
theorem Jq {a b c e g h j k:Type} (B:a->b->c->e->g->h->j->k->ZZ->Prop):∃ q:(a × b × c × e × g × h × j × k)->ZZ->Prop, ∀ {m:a} {o:b} {p:c} {r:e} {s:g} {t:h} {u:j} {y:k} {w':ZZ},q (m,o,p,r,s,t,u,y) w'↔B m o p r s t u y w':=⟨λ x w'=>B x.1 x.2.1 x.2.2.1 x.2.2.2.1 x.2.2.2.2.1 x.2.2.2.2.2.1 x.2.2.2.2.2.2.1 x.2.2.2.2.2.2.2 w',Iff.rfl⟩
theorem Jz {a b c e g h j k m o:Type} (B:a->b->c->e->g->h->j->k->m->o->ZZ->Prop):∃ q:(a × b × c × e × g × h × j × k × m × o)->ZZ->Prop, ∀ {p:a} {r:b} {s:c} {t:e} {u:g} {y:h} {z:j} {A:k} {C:m} {E:o} {w':ZZ},q (p,r,s,t,u,y,z,A,C,E) w'↔B p r s t u y z A C E w':=⟨λ x w'=>B x.1 x.2.1 x.2.2.1 x.2.2.2.1 x.2.2.2.2.1 x.2.2.2.2.2.1 x.2.2.2.2.2.2.1 x.2.2.2.2.2.2.2.1 x.2.2.2.2.2.2.2.2.1 x.2.2.2.2.2.2.2.2.2 w',Iff.rfl⟩
theorem JA {c e g h j k m o p r a:Type} (B:c->e->g->h->j->k->m->o->p->r->a->ZZ->Prop):∃ q:(c × e × g × h × j × k × m × o × p × r × a)->ZZ->Prop, ∀ {s:c} {t:e} {u:g} {y:h} {z:j} {A:k} {C:m} {E:o} {G:p} {H:r} {b:a} {w':ZZ},q (s,t,u,y,z,A,C,E,G,H,b) w'↔B s t u y z A C E G H b w':=⟨λ x w'=>B x.1 x.2.1 x.2.2.1 x.2.2.2.1 x.2.2.2.2.1 x.2.2.2.2.2.1 x.2.2.2.2.2.2.1 x.2.2.2.2.2.2.2.1 x.2.2.2.2.2.2.2.2.1 x.2.2.2.2.2.2.2.2.2.1 x.2.2.2.2.2.2.2.2.2.2 w',Iff.rfl⟩
theorem JB {G H I J K M Z5 Z6 R S a b c e g h j k m o:Type} (B:G->H->I->J->K->M->Z5->Z6->R->S->a->b->c->e->g->h->j->k->m->o->ZZ->Prop):∃ q:(G × H × I × J × K × M × Z5 × Z6 × R × S × a × b × c × e × g × h × j × k × m × o)->ZZ->Prop, ∀ {Z7:G} {Z3:H} {Z4:I} {Z8:J} {Z1:K} {Z2:M} {Z0:Z5} {a7:Z6} {a8:R} {a9:S} {p:a} {r:b} {s:c} {t:e} {u:g} {y:h} {z:j} {A:k} {C:m} {E:o} {w':ZZ},q (Z7,Z3,Z4,Z8,Z1,Z2,Z0,a7,a8,a9,p,r,s,t,u,y,z,A,C,E) w'↔B Z7 Z3 Z4 Z8 Z1 Z2 Z0 a7 a8 a9 p r s t u y z A C E w':=⟨λ x w'=>B x.1 x.2.1 x.2.2.1 x.2.2.2.1 x.2.2.2.2.1 x.2.2.2.2.2.1 x.2.2.2.2.2.2.1 x.2.2.2.2.2.2.2.1 x.2.2.2.2.2.2.2.2.1 x.2.2.2.2.2.2.2.2.2.1 x.2.2.2.2.2.2.2.2.2.2.1 x.2.2.2.2.2.2.2.2.2.2.2.1 x.2.2.2.2.2.2.2.2.2.2.2.2.1 x.2.2.2.2.2.2.2.2.2.2.2.2.2.1 x.2.2.2.2.2.2.2.2.2.2.2.2.2.2.1 x.2.2.2.2.2.2.2.2.2.2.2.2.2.2.2.1 x.2.2.2.2.2.2.2.2.2.2.2.2.2.2.2.2.1 x.2.2.2.2.2.2.2.2.2.2.2.2.2.2.2.2.2.1 x.2.2.2.2.2.2.2.2.2.2.2.2.2.2.2.2.2.2.1 x.2.2.2.2.2.2.2.2.2.2.2.2.2.2.2.2.2.2.2 w',Iff.rfl⟩
theorem JC {Z7 Z3 Z4 Z8 Z1 Z2 Z0 T7 T8 T9 a b c e g h j k m o p r s t u:Type} (B:Z7->Z3->Z4->Z8->Z1->Z2->Z0->T7->T8->T9->a->b->c->e->g->h->j->k->m->o->p->r->s->t->u->ZZ->Prop):∃ q:(Z7 × Z3 × Z4 × Z8 × Z1 × Z2 × Z0 × T7 × T8 × T9 × a × b × c × e × g × h × j × k × m × o × p × r × s × t × u)->ZZ->Prop, ∀ {a0:Z7} {a1:Z3} {a2:Z4} {a3:Z8} {a4:Z1} {a5:Z2} {a6:Z0} {a7:T7} {a8:T8} {a9:T9} {y:a} {z:b} {A:c} {C:e} {E:g} {G:h} {H:j} {I:k} {J:m} {K:o} {M:p} {Z5:r} {Z6:s} {R:t} {S:u} {w':ZZ},q (a0,a1,a2,a3,a4,a5,a6,a7,a8,a9,y,z,A,C,E,G,H,I,J,K,M,Z5,Z6,R,S) w'↔B a0 a1 a2 a3 a4 a5 a6 a7 a8 a9 y z A C E G H I J K M Z5 Z6 R S w':=⟨λ x w'=>B x.1 x.2.1 x.2.2.1 x.2.2.2.1 x.2.2.2.2.1 x.2.2.2.2.2.1 x.2.2.2.2.2.2.1 x.2.2.2.2.2.2.2.1 x.2.2.2.2.2.2.2.2.1 x.2.2.2.2.2.2.2.2.2.1 x.2.2.2.2.2.2.2.2.2.2.1 x.2.2.2.2.2.2.2.2.2.2.2.1 x.2.2.2.2.2.2.2.2.2.2.2.2.1 x.2.2.2.2.2.2.2.2.2.2.2.2.2.1 x.2.2.2.2.2.2.2.2.2.2.2.2.2.2.1 x.2.2.2.2.2.2.2.2.2.2.2.2.2.2.2.1 x.2.2.2.2.2.2.2.2.2.2.2.2.2.2.2.2.1 x.2.2.2.2.2.2.2.2.2.2.2.2.2.2.2.2.2.1 x.2.2.2.2.2.2.2.2.2.2.2.2.2.2.2.2.2.2.1 x.2.2.2.2.2.2.2.2.2.2.2.2.2.2.2.2.2.2.2.1 x.2.2.2.2.2.2.2.2.2.2.2.2.2.2.2.2.2.2.2.2.1 x.2.2.2.2.2.2.2.2.2.2.2.2.2.2.2.2.2.2.2.2.2.1 x.2.2.2.2.2.2.2.2.2.2.2.2.2.2.2.2.2.2.2.2.2.2.1 x.2.2.2.2.2.2.2.2.2.2.2.2.2.2.2.2.2.2.2.2.2.2.2.1 x.2.2.2.2.2.2.2.2.2.2.2.2.2.2.2.2.2.2.2.2.2.2.2.2 w',Iff.rfl⟩
theorem JD {T0 T1 T2 T3 T4 T5 T6 T7 T8 T9 a b c e g h j k m o p r s t u y z A C E G H I J K M:Type} (B:T0->T1->T2->T3->T4->T5->T6->T7->T8->T9->a->b->c->e->g->h->j->k->m->o->p->r->s->t->u->y->z->A->C->E->G->H->I->J->K->M->ZZ->Prop):∃ q:(T0 × T1 × T2 × T3 × T4 × T5 × T6 × T7 × T8 × T9 × a × b × c × e × g × h × j × k × m × o × p × r × s × t × u × y × z × A × C × E × G × H × I × J × K × M)->ZZ->Prop, ∀ {a0:T0} {a1:T1} {a2:T2} {a3:T3} {a4:T4} {a5:T5} {a6:T6} {a7:T7} {a8:T8} {a9:T9} {Z5:a} {Z6:b} {R:c} {S:e} {Z7:g} {Z3:h} {Z4:j} {Z8:k} {Z1:m} {Z2:o} {Z0:p} {aa:r} {ae:s} {af:t} {ag:u} {ah:y} {ai:z} {aj:A} {ak:C} {au:E} {av:G} {ax:H} {ay:I} {az:J} {aA:K} {aB:M} {w':ZZ},q (a0,a1,a2,a3,a4,a5,a6,a7,a8,a9,Z5,Z6,R,S,Z7,Z3,Z4,Z8,Z1,Z2,Z0,aa,ae,af,ag,ah,ai,aj,ak,au,av,ax,ay,az,aA,aB) w'↔B a0 a1 a2 a3 a4 a5 a6 a7 a8 a9 Z5 Z6 R S Z7 Z3 Z4 Z8 Z1 Z2 Z0 aa ae af ag ah ai aj ak au av ax ay az aA aB w':=⟨λ x w'=>B x.1 x.2.1 x.2.2.1 x.2.2.2.1 x.2.2.2.2.1 x.2.2.2.2.2.1 x.2.2.2.2.2.2.1 x.2.2.2.2.2.2.2.1 x.2.2.2.2.2.2.2.2.1 x.2.2.2.2.2.2.2.2.2.1 x.2.2.2.2.2.2.2.2.2.2.1 x.2.2.2.2.2.2.2.2.2.2.2.1 x.2.2.2.2.2.2.2.2.2.2.2.2.1 x.2.2.2.2.2.2.2.2.2.2.2.2.2.1 x.2.2.2.2.2.2.2.2.2.2.2.2.2.2.1 x.2.2.2.2.2.2.2.2.2.2.2.2.2.2.2.1 x.2.2.2.2.2.2.2.2.2.2.2.2.2.2.2.2.1 x.2.2.2.2.2.2.2.2.2.2.2.2.2.2.2.2.2.1 x.2.2.2.2.2.2.2.2.2.2.2.2.2.2.2.2.2.2.1 x.2.2.2.2.2.2.2.2.2.2.2.2.2.2.2.2.2.2.2.1 x.2.2.2.2.2.2.2.2.2.2.2.2.2.2.2.2.2.2.2.2.1 x.2.2.2.2.2.2.2.2.2.2.2.2.2.2.2.2.2.2.2.2.2.1 x.2.2.2.2.2.2.2.2.2.2.2.2.2.2.2.2.2.2.2.2.2.2.1 x.2.2.2.2.2.2.2.2.2.2.2.2.2.2.2.2.2.2.2.2.2.2.2.1 x.2.2.2.2.2.2.2.2.2.2.2.2.2.2.2.2.2.2.2.2.2.2.2.2.1 x.2.2.2.2.2.2.2.2.2.2.2.2.2.2.2.2.2.2.2.2.2.2.2.2.2.1 x.2.2.2.2.2.2.2.2.2.2.2.2.2.2.2.2.2.2.2.2.2.2.2.2.2.2.1 x.2.2.2.2.2.2.2.2.2.2.2.2.2.2.2.2.2.2.2.2.2.2.2.2.2.2.2.1 x.2.2.2.2.2.2.2.2.2.2.2.2.2.2.2.2.2.2.2.2.2.2.2.2.2.2.2.2.1 x.2.2.2.2.2.2.2.2.2.2.2.2.2.2.2.2.2.2.2.2.2.2.2.2.2.2.2.2.2.1 x.2.2.2.2.2.2.2.2.2.2.2.2.2.2.2.2.2.2.2.2.2.2.2.2.2.2.2.2.2.2.1 x.2.2.2.2.2.2.2.2.2.2.2.2.2.2.2.2.2.2.2.2.2.2.2.2.2.2.2.2.2.2.2.1 x.2.2.2.2.2.2.2.2.2.2.2.2.2.2.2.2.2.2.2.2.2.2.2.2.2.2.2.2.2.2.2.2.1 x.2.2.2.2.2.2.2.2.2.2.2.2.2.2.2.2.2.2.2.2.2.2.2.2.2.2.2.2.2.2.2.2.2.1 x.2.2.2.2.2.2.2.2.2.2.2.2.2.2.2.2.2.2.2.2.2.2.2.2.2.2.2.2.2.2.2.2.2.2.1 x.2.2.2.2.2.2.2.2.2.2.2.2.2.2.2.2.2.2.2.2.2.2.2.2.2.2.2.2.2.2.2.2.2.2.2 w',Iff.rfl⟩
def IB (ops:Array Oper) (k:Nat) (ok:Nat->Bool):Bool:=(ops[k]?).any λ o=>o.after.toList.any λ e=>Region.binds .any e && ok e.on
def GI (ops:Array Oper) (i:Nat):List Nat->List Nat->List Nat
  | [],a=>a
  | k::r,a=>GI ops i r (bif IB ops k (λ j=>j8 j i || mb j a) then k::a else a)
theorem DC {ops:Array Oper} {i:Nat}:∀ (ks a:List Nat),(∀ k ∈ a, ∃ r,way ops i k r=Zj)->∀ k ∈ GI ops i ks a, ∃ r,way ops i k r=Zj
  | [],a,h=>h
  | k::r,a,h=>by
    unfold GI
    refine DC r _ ?_
    cases e:IB ops k (λ j=>j8 j i || mb j a) with
    | false=>rw [cond_false]; exact h
    | true=>
      rw [cond_true]
      intro q hq
      rcases v1.1 hq with rfl | hq
      . unfold IB at e
        rw [Option.any_eq_true] at e
        obtain⟨o,ho,e⟩:=e
        rw [m3] at e
        obtain⟨x,hx,e⟩:=e
        rw [Bool.and_eq_true,Bool.or_eq_true] at e
        rcases e.2 with b | b
        . refine⟨[], ?_⟩
          unfold way
          rw [ho,Option.any_some,m3]
          exact⟨x,hx,by rw [e.1,l4 b]; simp⟩
        . obtain⟨c,g⟩:=h _ (rZ.1 b)
          refine⟨x.on::c, ?_⟩
          unfold way
          rw [ho,Option.any_some,g,Bool.and_true,m3]
          exact⟨x,hx,by rw [e.1]; simp⟩
      . exact h q hq
def IC:Nat->Nat->List Nat
  | _,0=> []
  | k,m+1=>k::IC (k+1) m
def vR (ops:Array Oper) (ks:List Nat) (i:Nat) (l:List Nat) (d n:Nat):Bool:=
  Region.free .any ops (kX ops.size l) i && (Region.ready .any ops (kX ops.size l)).contains i && ks.all (λ k=>mb k (GI ops i (IC 0 ops.size) []) && !(k==i)) && Nat.blt d n
theorem DD {ops:Array Oper} {i:Nat} {a:List Nat} (h:∀ k ∈ a, ∃ r,way ops i k r=Zj):∀ ks:List Nat,ks.all (λ k=>mb k a && !(k==i))=Zj->∃ rs,ways ops i ks rs=Zj
  | [],_=>⟨[],Z⟩
  | k::ks,hk=>by
    rw [List.all_cons,Bool.and_eq_true,Bool.and_eq_true] at hk
    obtain⟨rs,b⟩:=DD h ks hk.2
    obtain⟨r,c⟩:=h k (rZ.1 hk.1.1)
    refine⟨r::rs, ?_⟩
    unfold ways
    rw [c,hk.1.2,b]; rfl
theorem IE {ops:Array Oper} {ks:List Nat} {i:Nat} {l:List Nat} {d n:Nat} (h:vR ops ks i l d n=Zj):∃ rs,tk ops ks rs i l d n=Zj:=by
  simp only [vR,Bool.and_eq_true] at h
  obtain⟨rs,hr⟩:=DD (DC (ops:=ops) (i:=i) (IC 0 ops.size) [] (λ k hk=>by cases hk)) ks h.1.2
  refine⟨rs, ?_⟩
  simp only [tk,Bool.and_eq_true]
  exact⟨⟨⟨h.1.1.1,h.1.1.2⟩,hr⟩,h.2⟩
def DF:Nat->List HP->Option (List HP × List HP)
  | 0,l=>Zv ([],l)
  | _+1, []=>Zk
  | k+1,R::r=>match DF k r with
    | some (a,b)=>Zv (R::a,b)
    | none=>Zk
theorem BX:∀ (k:Nat) (l a b:List HP),DF k l=Zv (a,b)->l=a++b
  | 0,l,a,b,h=>by simp only [DF,Option.some.injEq,Prod.mk.injEq] at h; obtain⟨rfl,rfl⟩:=h; rfl
  | k+1, [],a,b,h=>by cases h
  | k+1,R::r,a,b,h=>by
    unfold DF at h
    split at h
    . rename_i a' b' hq
      simp only [Option.some.injEq,Prod.mk.injEq] at h
      obtain⟨rfl,rfl⟩:=h
      rw [BX k r a' b' hq]; rfl
    . cases h
section
variable {P:Program} {ops:Array Oper} {Q:Exit->Act->ZZ->Prop} {ks:List Nat} {Good:ZZ->Prop} {n:Nat} {F:List (Nat × ZQ)} {w w0:ZZ} {D:Nat->Prop} {L:List HP} {op:Op} {ty:TypeId} {v:ZQ} {fuel:Nat} {l:List Nat} {pos:String} {aft:Array Edge} {d:Nat} {x:Operand}
theorem qt (i:Nat) (hi:ops[i]? =Zv ⟨Zv d,op,ty,pos,aft,Zk⟩) (hy:∀ Z8,Good Z8->Yl P n F Z8 op ty v) (h:GX P ops Q ks Good fuel (i::l) n ((d,v)::F) w) (hk:vR ops ks i l d n=Zj:=by kernel_rfl):GX P ops Q ks Good (fuel+1) l n F w:=
  let ⟨rs,hr⟩:=IE hk
  GX.take (rs:=rs) i hi hr hy h
theorem qv (i:Nat) (hi:ops[i]? =Zv ⟨Zv d, .move x,ty,pos,aft,Zk⟩) (hx:ev F x=Zv v) (h:GX P ops Q ks Good fuel (i::l) n ((d,v)::F) w) (hk:vR ops ks i l d n=Zj:=by kernel_rfl):GX P ops Q ks Good (fuel+1) l n F w:=
  qt i hi (λ _ _=>J3 hx) h hk
theorem qa (i:Nat) (hi:ops[i]? =Zv ⟨Zv d, .assign x,ty,pos,aft,Zk⟩) (hx:ev F x=Zv v) (h:GX P ops Q ks Good fuel (i::l) n ((d,v)::F) w) (hk:vR ops ks i l d n=Zj:=by kernel_rfl):GX P ops Q ks Good (fuel+1) l n F w:=
  qt i hi (λ _ _=>KV hx) h hk
theorem qk (v:ZQ) (i:Nat) (hi:ops[i]? =Zv ⟨Zv d,op,ty,pos,aft,Zk⟩) (h:GX P ops Q ks Good fuel (i::l) n ((d,v)::F) w) (hk:vR ops ks i l d n=Zj:=by kernel_rfl) (a:known F op.operands.toList=Zj:=by exact Z) (hs:qF op=Zj:=by exact Z)
    (hr:∀ Z8,(execOp (oW F) ⟨Zk,op,ty, "", #[],Zk⟩).run P Z8= .ok (.value v) Z8:=by intro _; kernel_rfl):GX P ops Q ks Good (fuel+1) l n F w:=qt i hi (λ _ _=>Lv a hs hr) h hk
theorem qp (g o:Nat) (i:Nat) (hi:ops[i]? =Zv ⟨Zv d,op,ty,pos,aft,Zk⟩) (h:GX P ops Q ks Good fuel (i::l) n ((d, Zz (Zv ⟨g,o,Zk⟩))::F) w) (hk:vR ops ks i l d n=Zj:=by kernel_rfl) (a:known F op.operands.toList=Zj:=by exact Z) (hs:qF op=Zj:=by exact Z)
    (hr:∀ Z8,(execOp (oW F) ⟨Zk,op,ty, "", #[],Zk⟩).run P Z8= .ok (.value (Zz (Zv ⟨g,o,Zk⟩))) Z8:=by intro _; kernel_rfl):GX P ops Q ks Good (fuel+1) l n F w:=qt i hi (λ _ _=>Lv a hs hr) h hk
theorem ql {Z7:TypeId} {g o:Nat} {cs:List ZQ} {t:TypeId} (i:Nat) (hi:ops[i]? =Zv ⟨Zv d, .load Z7 x,ty,pos,aft,Zk⟩) (j:Nat) (ha:∀ Z8,(isAgg Z7).run P Z8= .ok O Z8) (hj:L[j]? =Zv (blk g cs t)) (hx:ev F x=Zv (Zz (Zv ⟨g,o,Zk⟩))) (hv:cs[o]? =Zv v)
    (h:GX P ops Q ks (λ Z8=> ∃ L',Own w0 D Z8 (L++L')) fuel (i::l) n ((d,v)::F) w) (hk:vR ops ks i l d n=Zj:=by kernel_rfl):GX P ops Q ks (λ Z8=> ∃ L',Own w0 D Z8 (L++L')) (fuel+1) l n F w:=
  qt i hi (λ _ ⟨L',H⟩=>J5 hx (bO.one ha (Kw (H.cls (i:=j) (by rw [v8 (p2.1 hj).1]; exact hj)) hv))) h hk
theorem qb {Z7:TypeId} {g m:Nat} {cs:List ZQ} {t:TypeId} (i:Nat) (hi:ops[i]? =Zv ⟨Zv d, .load Z7 x,ty,pos,aft,Zk⟩) (j:Nat) (ha:∀ Z8,(isAgg Z7).run P Z8= .ok Zj Z8) (hS:∀ Z8,(sizeOf Z7).run P Z8= .ok m Z8) (hj:L[j]? =Zv (blk g cs t)) (hx:ev F x=Zv (Zz (Zv ⟨g,0,Zk⟩))) (hm:X cs=m)
    (h:GX P ops Q ks (λ Z8=> ∃ L',Own w0 D Z8 (L++L')) fuel (i::l) n ((d, Zq cs.toArray)::F) w) (hk:vR ops ks i l d n=Zj:=by kernel_rfl):GX P ops Q ks (λ Z8=> ∃ L',Own w0 D Z8 (L++L')) (fuel+1) l n F w:=
  qt i hi (λ _ ⟨L',H⟩=>J5 hx (J7 ha (by rw [hm]; exact hS) (H.cls (i:=j) (by rw [v8 (p2.1 hj).1]; exact hj)))) h hk
theorem qd (i:Nat) (hi:ops[i]? =Zv ⟨Zv d,op,ty,pos,aft,Zk⟩)
    (h:Do P n F w op ty λ v w'=>(ks.any (λ k=>(kX ops.size (i::l)).getD k O)=Zj\/Good w')/\GX P ops Q ks Good fuel (i::l) n ((d,v)::F) w') (hk:(dx ops i l && Nat.blt d n)=Zj:=by kernel_rfl):GX P ops Q ks Good (fuel+1) l n F w:=GX.do i hi hk h
theorem qe (i:Nat) (hi:ops[i]? =Zv ⟨Zk,op,ty,pos,aft,Zk⟩)
    (h:Do P n F w op ty λ _ w'=>(ks.any (λ k=>(kX ops.size (i::l)).getD k O)=Zj\/Good w')/\GX P ops Q ks Good fuel (i::l) n F w') (hk:dx ops i l=Zj:=by kernel_rfl):GX P ops Q ks Good (fuel+1) l n F w:=MX i hi hk h
theorem qn (h:Fin Q .normal n F w) (hk:(Region.ready .any ops (kX ops.size l)).isEmpty=Zj:=by kernel_rfl):GX P ops Q ks Good fuel l n F w:=MR hk h
theorem BZ {i:Nat} {lo:List Oper} (A:List HP) (ks:List Nat) (H:Own w0 D w (A++L)) (hQ:bJ Q) (h:∀ w',Own w0 D w' (A++L)->GX P lo.toArray Q ks (λ Z8=> ∃ L',Own w0 D Z8 (A++L')) (X lo) [] n F w')
    (hm:P.follows .mixedOrders=Zj) (hns:Region.noSelect lo.toArray=Zj):Wp P (.region i lo.toArray Zj) n F w Q:=K8 ks _ hm hns hQ ⟨_,H.drew⟩ (h _ H.drew)
variable {R0 R1 R2 R3 R4 R5:HP} {i:Nat} {lo:List Oper}
theorem A8 (ks:List Nat) (hQ:bJ Q) (H:Own w0 D w L) (h:∀ w',Own w0 D w' L->GX P lo.toArray Q ks (λ Z8=> ∃ L',Own w0 D Z8 ([]++L')) (X lo) [] n F w')
    (hm:P.follows .mixedOrders=Zj:=by kernel_rfl) (hns:Region.noSelect lo.toArray=Zj:=by kernel_rfl):Wp P (.region i lo.toArray Zj) n F w Q:=BZ [] ks H hQ h hm hns
theorem DI (ks:List Nat) (hQ:bJ Q) (H:Own w0 D w (R0::L)) (h:∀ w',Own w0 D w' (R0::L)->GX P lo.toArray Q ks (λ Z8=> ∃ L',Own w0 D Z8 ([R0]++L')) (X lo) [] n F w')
    (hm:P.follows .mixedOrders=Zj:=by kernel_rfl) (hns:Region.noSelect lo.toArray=Zj:=by kernel_rfl):Wp P (.region i lo.toArray Zj) n F w Q:=BZ [R0] ks H hQ h hm hns
theorem oZ (ks:List Nat) (hQ:bJ Q) (H:Own w0 D w (R0::R1::L)) (h:∀ w',Own w0 D w' (R0::R1::L)->GX P lo.toArray Q ks (λ Z8=> ∃ L',Own w0 D Z8 ([R0,R1]++L')) (X lo) [] n F w')
    (hm:P.follows .mixedOrders=Zj:=by kernel_rfl) (hns:Region.noSelect lo.toArray=Zj:=by kernel_rfl):Wp P (.region i lo.toArray Zj) n F w Q:=BZ [R0,R1] ks H hQ h hm hns
theorem yH (ks:List Nat) (hQ:bJ Q) (H:Own w0 D w (R0::R1::R2::L)) (h:∀ w',Own w0 D w' (R0::R1::R2::L)->GX P lo.toArray Q ks (λ Z8=> ∃ L',Own w0 D Z8 ([R0,R1,R2]++L')) (X lo) [] n F w')
    (hm:P.follows .mixedOrders=Zj:=by kernel_rfl) (hns:Region.noSelect lo.toArray=Zj:=by kernel_rfl):Wp P (.region i lo.toArray Zj) n F w Q:=BZ [R0,R1,R2] ks H hQ h hm hns
theorem DJ (ks:List Nat) (hQ:bJ Q) (H:Own w0 D w (R0::R1::R2::R3::R4::L)) (h:∀ w',Own w0 D w' (R0::R1::R2::R3::R4::L)->GX P lo.toArray Q ks (λ Z8=> ∃ L',Own w0 D Z8 ([R0,R1,R2,R3,R4]++L')) (X lo) [] n F w')
    (hm:P.follows .mixedOrders=Zj:=by kernel_rfl) (hns:Region.noSelect lo.toArray=Zj:=by kernel_rfl):Wp P (.region i lo.toArray Zj) n F w Q:=BZ [R0,R1,R2,R3,R4] ks H hQ h hm hns
theorem zu (ks:List Nat) (hQ:bJ Q) (H:Own w0 D w (R0::R1::R2::R3::R4::R5::L)) (h:∀ w',Own w0 D w' (R0::R1::R2::R3::R4::R5::L)->GX P lo.toArray Q ks (λ Z8=> ∃ L',Own w0 D Z8 ([R0,R1,R2,R3,R4,R5]++L')) (X lo) [] n F w')
    (hm:P.follows .mixedOrders=Zj:=by kernel_rfl) (hns:Region.noSelect lo.toArray=Zj:=by kernel_rfl):Wp P (.region i lo.toArray Zj) n F w Q:=BZ [R0,R1,R2,R3,R4,R5] ks H hQ h hm hns
theorem kL {A B:List HP} (k:Nat) (ks:List Nat) (hQ:bJ Q) (H:Own w0 D w L) (h:∀ w',Own w0 D w' L->GX P lo.toArray Q ks (λ Z8=> ∃ L',Own w0 D Z8 (A++L')) (X lo) [] n F w') (hA:DF k L=Zv (A,B):=by exact Z)
    (hm:P.follows .mixedOrders=Zj:=by kernel_rfl) (hns:Region.noSelect lo.toArray=Zj:=by kernel_rfl):Wp P (.region i lo.toArray Zj) n F w Q:=by
  have e:=BX k L A B hA
  subst e
  exact BZ A ks H hQ h hm hns
theorem Jr (H:Own w0 D w (R0::L)) (h:GX P ops Q ks (λ Z8=> ∃ L',Own w0 D Z8 ([R0]++L')) fuel l n F w):GX P ops Q ks (λ Z8=> ∃ L',Own w0 D Z8 ([]++L')) fuel l n F w:=
  Lc (λ _ ⟨L',h⟩=>⟨[R0]++L',h⟩) ⟨_,H⟩ h
end
end
section
open Go.RowKit
structure Eff where q::
  i:Nat
  d:Nat
  op:Op
  ty:TypeId
  pos:String
  aft:Array Edge
  γ:Type
  v:γ->ZQ
  p:γ->Prop
  R:γ->List HP
def Ed (ops:Array Oper):Nat->List Nat->List Nat->Bool
  | 0,rs,l=>rs.isEmpty
  | f+1,rs,l=>rs.isEmpty || ((Region.ready .any ops (kX ops.size l)).all (λ q=>mb q rs) && !(Region.ready .any ops (kX ops.size l)).isEmpty && rs.all λ i=>Ed ops f (rs.erase i) (i::l))
def Ee (ops:Array Oper) (last:Nat):Nat->List Nat->List Nat->Bool
  | 0,rs,l=>rs.isEmpty
  | f+1,rs,l=>rs.isEmpty || ((Region.ready .any ops (kX ops.size l)).all (λ q=>mb q (last::rs)) && !(Region.ready .any ops (kX ops.size l)).isEmpty && (rs.all λ i=>Ee ops last f (rs.erase i) (i::l)) && Ed ops (f+1) rs (last::l))
def Cn (B:List HP->List Nat->List (Nat × ZQ)->Prop):List Eff->List HP->List Nat->List (Nat × ZQ)->Prop
  | [],L',l,F=>B L' l F
  | e::es,L',l,F=> ∀ g,e.p g->Cn B es (e.R g++L') (e.i::l) ((e.d,e.v g)::F)
def Sm (ops:Array Oper) (B:List HP->List Nat->List (Nat × ZQ)->Prop):Prop:=∀ L1 L2 l1 l2 a b,L1.Perm L2->kX ops.size l1=kX ops.size l2->(∀ t,look a t=look b t)->B L1 l1 a->B L2 l2 b
theorem uZ {a b:List (Nat × ZQ)} (h:∀ t,look a t=look b t) (d:Nat) (v:ZQ):∀ t,look ((d,v)::a) t=look ((d,v)::b) t:=λ t=>by
  unfold look; rw [h t]
theorem xy {F:List (Nat × ZQ)} {d e:Nat} (v u:ZQ) (hd:d≠e):∀ t,look ((d,v)::(e,u)::F) t=look ((e,u)::(d,v)::F) t:=λ t=>by
  simp only [look]
  by_cases b:d=t
  . have f:e≠t:=λ h=>hd (b.trans h.symm)
    have a:Nat.beq e t=O:=by rw [Bool.eq_false_iff]; intro hh; exact f (Nat.eq_of_beq_eq_true hh)
    rw [a]; simp
  . have a:Nat.beq d t=O:=by rw [Bool.eq_false_iff]; intro hh; exact b (Nat.eq_of_beq_eq_true hh)
    rw [a]; simp
theorem o7 {n:Nat} {l1 l2:List Nat} (h:kX n l1=kX n l2) (i:Nat):kX n (i::l1)=kX n (i::l2):=by unfold kX; rw [h]
theorem yO {n:Nat} {l:List Nat} {i j:Nat} (h:i≠j):kX n (i::j::l)=kX n (j::i::l):=by
  simp only [kX]; exact Array.setIfInBounds_comm _ _ h.symm
theorem Cn.same {ops:Array Oper} {B:List HP->List Nat->List (Nat × ZQ)->Prop} (hB:Sm ops B):∀ es:List Eff,Sm ops (Cn B es)
  | []=>hB
  | e::es=>λ L1 L2 l1 l2 a b hp hl hF h g hg=>Cn.same hB es _ _ _ _ _ _ (hp.append_left _) (o7 hl _) (uZ hF _ _) (h g hg)
def EJ (e f:Eff):Prop:=e.i≠f.i/\e.d≠f.d
theorem Ca {α:Type} (a b c:List α):(a++(b++c)).Perm (b++(a++c)):=by
  rw [<- List.append_assoc, <- List.append_assoc]; exact List.perm_append_comm.append_right _
theorem Cn.swap {ops:Array Oper} {B:List HP->List Nat->List (Nat × ZQ)->Prop} (hB:Sm ops B) {e f:Eff} {es:List Eff} (hd:EJ e f) {L':List HP} {l:List Nat} {F:List (Nat × ZQ)} (h:Cn B (e::f::es) L' l F):Cn B (f::e::es) L' l F:=λ g hg g' hg'=>
  Cn.same hB es _ _ _ _ _ _ (Ca _ _ _) (yO hd.1.symm) (xy _ _ hd.2.symm) (h g' hg' g hg)
theorem LU {ops:Array Oper} {B:List HP->List Nat->List (Nat × ZQ)->Prop} (hB:Sm ops B) {e:Eff} {bs:List Eff}:∀ (us:List Eff) (L':List HP) (l:List Nat) (F:List (Nat × ZQ)),(∀ a ∈ us,EJ a e)->Cn B (us++e::bs) L' l F->Cn B (e::(us++bs)) L' l F
  | [],L',l,F,_,h=>h
  | a::us,L',l,F,hd,h=>Cn.swap hB (hd a b3) (es:=us++bs) λ g hg=>LU hB us _ _ _ (λ x hx=>hd x (.tail _ hx)) (h g hg)
theorem Do.frame {P:Program} {n:Nat} {F G:List (Nat × ZQ)} {w:ZZ} {op:Op} {ty:TypeId} {K:ZQ->ZZ->Prop} (hs:∀ t v,look G t=Zv v->look F t=Zv v) (h:Do P n G w op ty K):Do P n F w op ty K:=λ a ha=>h a ⟨ha.size,λ t v hv=>ha.at_ t v (hs t v hv)⟩
theorem Yl.frame {P:Program} {n:Nat} {F G:List (Nat × ZQ)} {w:ZZ} {op:Op} {ty:TypeId} {v:ZQ} (hs:∀ t v,look G t=Zv v->look F t=Zv v) (h:Yl P n G w op ty v):Yl P n F w op ty v:=λ a ha=>h a ⟨ha.size,λ t v hv=>ha.at_ t v (hs t v hv)⟩
theorem GX.same {P:Program} {ops:Array Oper} {Q:Exit->Act->ZZ->Prop} {ks:List Nat} {Good:ZZ->Prop} {fuel n:Nat} {l1 l2:List Nat} {b d:List (Nat × ZQ)} {w:ZZ} (hl:kX ops.size l1=kX ops.size l2) (hF:∀ t,look b t=look d t) (h:GX P ops Q ks Good fuel l1 n b w):GX P ops Q ks Good fuel l2 n d w:=λ hQ hs=>by
  have f:=h hQ hs
  rw [hl] at f
  exact λ hc hS a ha=>f hc hS a ⟨⟨ha.size,λ t v hv=>ha.at_ t v (by rw [<- hF]; exact hv)⟩,ha.defers⟩
section
variable {P:Program} {ops:Array Oper} {Q:Exit->Act->ZZ->Prop} {ks:List Nat} {Good:ZZ->Prop} {n:Nat} {w0:ZZ} {D:Nat->Prop} {L:List HP} {G:List (Nat × ZQ)}
def EK (P:Program) (ops:Array Oper) (n:Nat) (w0:ZZ) (D:Nat->Prop) (L:List HP) (G:List (Nat × ZQ)) (e:Eff):Prop:=
  ops[e.i]? =Zv ⟨Zv e.d,e.op,e.ty,e.pos,e.aft,Zk⟩/\Nat.blt e.d n=Zj/\look G e.d=Zk/\∀ w L',Own w0 D w (sepL L'::L)->Do P n G w e.op e.ty λ u w'=> ∃ g,u=e.v g/\e.p g/\Own w0 D w' (e.R g++(sepL L'::L))
theorem zw {w:ZZ} {R L':List HP} (H:Own w0 D w (R++(sepL L'::L))):Own w0 D w (sepL (R++L')::L):=by
  have a:=(H.perm List.perm_middle).flat
  rw [<- List.append_assoc] at a
  exact(a.perm (List.perm_append_comm.append_right _)).pack
theorem uH {F:List (Nat × ZQ)} (hs:∀ t v,look G t=Zv v->look F t=Zv v) {d:Nat} (hd:look G d=Zk) (u:ZQ):∀ t v,look G t=Zv v->look ((d,u)::F) t=Zv v:=λ t v h=>by
  unfold look
  by_cases e:d=t
  . subst e; rw [hd] at h; cases h
  . have:Nat.beq d t=O:=by rw [Bool.eq_false_iff]; intro hh; exact e (Nat.eq_of_beq_eq_true hh)
    rw [this]; exact hs t v h
theorem Cb {es:List Eff} {q:Nat} (h:mb q (es.map Eff.i)=Zj):∃ us e bs,es=us++e::bs/\e.i=q:=by
  obtain⟨e,he,hq⟩:=List.mem_map.1 (rZ.1 h)
  obtain⟨us,bs,hs⟩:=List.append_of_mem he
  exact⟨us,e,bs,hs,hq⟩
theorem EL {us bs:List Eff} {e:Eff} (hd:∀ a ∈ us,EJ a e):(Zh Eff.i (us++e::bs)).erase e.i=Zh Eff.i (us++bs):=by
  rw [List.map_append,List.map_append,List.map_cons,List.erase_append_right _ (λ hm=> ?_),List.erase_cons_head]
  obtain⟨a,ha,h⟩:=List.mem_map.1 hm
  exact(hd a ha).1 h
def Ds:List Eff->Prop
  | []=>True
  | e::es=>(∀ f ∈ es,EJ e f)/\Ds es
theorem Ds.mid {e:Eff} {bs:List Eff}:∀ {us:List Eff},Ds (us++e::bs)->(∀ a ∈ us,EJ a e)/\Ds (us++bs)
  | [],h=>⟨λ a ha=>(by cases ha),h.2⟩
  | a::us,h=>by
    have d:=Ds.mid h.2
    refine⟨λ x hx=> ?_,λ f hf=>h.1 f ?_,d.2⟩
    . rcases List.mem_cons.1 hx with rfl | hx
      . exact h.1 e (List.mem_append_right _ b3)
      . exact d.1 x hx
    . rcases List.mem_append.1 hf with b | b
      . exact List.mem_append_left _ b
      . exact List.mem_append_right _ (.tail _ b)
theorem IG {B:List HP->List Nat->List (Nat × ZQ)->Prop} (hB:Sm ops B) (hg:∀ w' L',Own w0 D w' (sepL L'::L)->Good w') {fuel:Nat}
    (hK:∀ L' l F w',(∀ t v,look G t=Zv v->look F t=Zv v)->Own w0 D w' (sepL L'::L)->B L' l F->GX P ops Q ks Good fuel l n F w'):
    ∀ (m:Nat) (es:List Eff),X es=m->∀ (L':List HP) (l:List Nat) (F:List (Nat × ZQ)) (w:ZZ),(∀ t v,look G t=Zv v->look F t=Zv v)->(∀ e ∈ es,EK P ops n w0 D L G e)->Ds es->Ed ops m (es.map Eff.i) l=Zj->Own w0 D w (sepL L'::L)->Cn B es L' l F->GX P ops Q ks Good (fuel+m) l n F w
  | 0,es,hm,L',l,F,w,hs,hE,hd,hk,H,h=>by
    rw [List.length_eq_zero_iff] at hm; subst hm
    exact hK L' l F w hs H h
  | m+1,es,hm,L',l,F,w,hs,hE,hd,hk,H,h=>by
    have hne:(es.map Eff.i).isEmpty=O:=by
      cases es with
      | nil=>cases hm
      | cons _ _=>rfl
    unfold Ed at hk
    simp only [hne,Bool.false_or,Bool.and_eq_true,Bool.not_eq_true'] at hk
    refine λ hQ hns=>GW.any Z hk.1.2 λ q hq=> ?_
    obtain⟨us,e,bs,rfl,rfl⟩:=Cb (List.all_eq_true.1 hk.1.1 q hq)
    have hdm:=Ds.mid hd
    have hke:=List.all_eq_true.1 hk.2 e.i (List.mem_map.2 ⟨e,List.mem_append_right _ b3,Z⟩)
    rw [EL hdm.1] at hke
    obtain⟨hi,hbl,hfr,hdo⟩:=hE e (List.mem_append_right _ b3)
    have hc:=LU hB us L' l F hdm.1 h
    refine GO.do hi hbl Z (((hdo w L' H).frame hs).mono ?_)
    rintro _ w' ⟨g,rfl,hp,H'⟩
    have b:=zw H'
    refine⟨.inr (hg _ _ b),IG hB hg hK m (us++bs) ?_ _ (e.i::l) _ w' (uH hs hfr _) (λ x hx=>hE x ?_) hdm.2 hke b (hc g hp) hQ hns⟩
    . simp only [List.length_append,List.length_cons] at hm ⊢; omega
    . rcases List.mem_append.1 hx with a | a
      . exact List.mem_append_left _ a
      . exact List.mem_append_right _ (.tail _ a)
def BM (P:Program) (ops:Array Oper) (Q:Exit->Act->ZZ->Prop) (ks:List Nat) (Good:ZZ->Prop) (n:Nat) (w0:ZZ) (D:Nat->Prop) (L:List HP) (fuel im dm:Nat) (op:Op) (ty:TypeId) (e:Eff) (L':List HP) (l:List Nat) (F:List (Nat × ZQ)):Prop:=
  ∃ vm,(∀ Z8,Yl P n F Z8 op ty vm)/\∀ g,e.p g->∀ w',Own w0 D w' (sepL (e.R g++L')::L)->GX P ops Q ks Good fuel (e.i::im::l) n ((e.d,e.v g)::(dm,vm)::F) w'
theorem BM.same {fuel im dm:Nat} {op:Op} {ty:TypeId} {e:Eff}:Sm ops (BM P ops Q ks Good n w0 D L fuel im dm op ty e):=λ L1 L2 l1 l2 d f hp hl hF ⟨vm,hy,h⟩=>
  ⟨vm,λ Z8=>(hy Z8).frame (λ t v hv=>by rw [<- hF]; exact hv),λ g hg w' H=>(h g hg w' (by
    have a:=H.flat
    rw [List.append_assoc] at a
    have b:=(a.perm ((hp.symm.append_right _).append_left _))
    rw [<- List.append_assoc] at b
    exact b.pack)).same (o7 (o7 hl _) _) (uZ (uZ hF _ _) _ _)⟩
def yP (P:Program) (ops:Array Oper) (n:Nat) (w0:ZZ) (D:Nat->Prop) (L:List HP) (G:List (Nat × ZQ)):List Eff->Prop
  | []=>True
  | e::es=>EK P ops n w0 D L G e/\yP P ops n w0 D L G es
theorem yP.all:∀ {es:List Eff},yP P ops n w0 D L G es->∀ e ∈ es,EK P ops n w0 D L G e
  | [],_,e,he=>by cases he
  | f::es,h,e,he=>by
    rcases List.mem_cons.1 he with rfl | he
    . exact h.1
    . exact yP.all h.2 e he
def xz:List Nat->Bool
  | []=>Zj
  | k::r=> !(mb k r) && xz r
theorem EM {k:Nat} {r:List Nat} (h:xz (k::r)=Zj):xz r=Zj:=by
  unfold xz at h; rw [Bool.and_eq_true] at h; exact h.2
theorem GJ:∀ {es:List Eff},xz (es.map Eff.i)=Zj->xz (es.map Eff.d)=Zj->Ds es
  | [],_,_=>ZV
  | e::es,a,b=>by
    simp only [List.map_cons,xz,Bool.and_eq_true,Bool.not_eq_true'] at a b
    refine⟨λ f hf=>⟨λ he=> ?_,λ he=> ?_⟩,GJ a.2 b.2⟩
    . have:mb e.i (es.map Eff.i)=Zj:=rZ.2 (List.mem_map.2 ⟨f,hf,he.symm⟩)
      rw [a.1] at this; cases this
    . have:mb e.d (es.map Eff.d)=Zj:=rZ.2 (List.mem_map.2 ⟨f,hf,he.symm⟩)
      rw [b.1] at this; cases this
def EN:List Eff->List Nat->List Nat
  | [],l=>l
  | e::es,l=>EN es (e.i::l)
theorem MC {B:List HP->List Nat->List (Nat × ZQ)->Prop} {d:Nat}:∀ {es:List Eff} {L':List HP} {l:List Nat} {F:List (Nat × ZQ)},look F d=Zk->(∀ e ∈ es,d≠e.d)->Cn B es L' l F->Cn (λ L' l' F=>B L' l' F/\kX ops.size l'=kX ops.size (EN es l)/\look F d=Zk) es L' l F
  | [],L',l,F,a,b,h=>⟨h,Z,a⟩
  | e::es,L',l,F,a,b,h=>λ g hg=>MC (by
      unfold look
      have:Nat.beq e.d d=O:=by rw [Bool.eq_false_iff]; intro hh; exact b e b3 (Nat.eq_of_beq_eq_true hh).symm
      rw [this]; exact a) (λ x hx=>b x (.tail _ hx)) (h g hg)
theorem FY {B:List HP->List Nat->List (Nat × ZQ)->Prop} {d:Nat} {lc:List Nat} (hB:Sm ops B):Sm ops (λ L' l F=>B L' l F/\kX ops.size l=kX ops.size lc/\look F d=Zk):=λ L1 L2 l1 l2 a b hp hl hF h=>
  ⟨hB _ _ _ _ _ _ hp hl hF h.1,hl.symm.trans h.2.1,(hF d).symm.trans h.2.2⟩
def B2 (ops:Array Oper) (B:List HP->List Nat->List (Nat × ZQ)->Prop) (i d:Nat) (u:ZQ) (R:List HP) (L':List HP) (l:List Nat) (F:List (Nat × ZQ)):Prop:=
  ∃ L1 l1 a,B L1 l1 a/\L'.Perm (R++L1)/\kX ops.size l=kX ops.size (i::l1)/\∀ t,look F t=look ((d,u)::a) t
theorem B2.same {B:List HP->List Nat->List (Nat × ZQ)->Prop} {i d:Nat} {u:ZQ} {R:List HP}:Sm ops (B2 ops B i d u R):=λ L1 L2 l1 l2 k l hp hl hF ⟨a,b,c,h,f,g,j⟩=>
  ⟨a,b,c,h,hp.symm.trans f,hl.symm.trans g,λ t=>(hF t).symm.trans (j t)⟩
theorem Mo {B:List HP->List Nat->List (Nat × ZQ)->Prop} {i d:Nat} {u:ZQ} {R:List HP}:∀ {es:List Eff} {L1 L':List HP} {l1 l:List Nat} {a F:List (Nat × ZQ)},(∀ e ∈ es,e.i≠i/\e.d≠d)->L'.Perm (R++L1)->kX ops.size l=kX ops.size (i::l1)->(∀ t,look F t=look ((d,u)::a) t)->Cn B es L1 l1 a->Cn (B2 ops B i d u R) es L' l F
  | [],L1,L',l1,l,a,F,hd,hp,hl,hF,h=>⟨L1,l1,a,h,hp,hl,hF⟩
  | e::es,L1,L',l1,l,a,F,hd,hp,hl,hF,h=>λ g hg=>Mo (λ x hx=>hd x (.tail _ hx)) ((hp.append_left _).trans (Ca _ _ _)) ((o7 hl _).trans (yO (hd e b3).1)) (λ t=>(uZ hF _ _ t).trans (xy _ _ (hd e b3).2 t)) (h g hg)
theorem II {fuel im dm:Nat} {op:Op} {ty:TypeId} {pos:String} {aft:Array Edge} {e:Eff} {lc:List Nat} (hg:∀ w' L',Own w0 D w' (sepL L'::L)->Good w') (hi:ops[im]? =Zv ⟨Zv dm,op,ty,pos,aft,Zk⟩) (he:EK P ops n w0 D L G e) (hdm:dm≠e.d) (hie:im≠e.i) (hgd:look G dm=Zk)
    (j:vR ops ks im lc dm n=Zj) (k:dx ops e.i (im::lc)=Zj) (o:vR ops ks im (e.i::lc) dm n=Zj):
    ∀ (m:Nat) (es:List Eff),X es=m->∀ (L':List HP) (l:List Nat) (F:List (Nat × ZQ)) (w:ZZ),(∀ t v,look G t=Zv v->look F t=Zv v)->(∀ e ∈ es,EK P ops n w0 D L G e)->(∀ x ∈ es,x.i≠e.i/\x.d≠e.d)->Ds es->Ee ops e.i m (es.map Eff.i) l=Zj->Own w0 D w (sepL L'::L)->Cn (λ L' l F=>BM P ops Q ks Good n w0 D L fuel im dm op ty e L' l F/\kX ops.size l=kX ops.size lc/\look F e.d=Zk) es L' l F->GX P ops Q ks Good (fuel+2+m) l n F w
  | 0,es,hm,L',l,F,w,hs,hE,hx,hd,hk,H,h=>by
    rw [List.length_eq_zero_iff] at hm; subst hm
    obtain⟨⟨vm,hy,h⟩,hl,hF⟩:=h
    obtain⟨a,hbl,hfr,hdo⟩:=he
    refine GX.same (l1:=lc) hl.symm (λ _=>rfl) (qt im hi (λ Z8 _=>hy Z8) (GX.do e.i a (by rw [k,hbl]; rfl) (((hdo w L' H).frame (uH hs hgd _)).mono ?_)) j)
    rintro _ w' ⟨g,rfl,hp,H'⟩
    have f:=zw H'
    exact⟨.inr (hg _ _ f),(h g hp w' f).same (o7 (o7 hl _) _) (λ _=>rfl)⟩
  | m+1,es,hm,L',l,F,w,hs,hE,hx,hd,hk,H,h=>by
    have hne:(es.map Eff.i).isEmpty=O:=by
      cases es with
      | nil=>cases hm
      | cons _ _=>rfl
    unfold Ee at hk
    simp only [hne,Bool.false_or,Bool.and_eq_true,Bool.not_eq_true'] at hk
    refine λ hQ hns=>GW.any Z hk.1.1.2 λ q hq=> ?_
    have p:=List.all_eq_true.1 hk.1.1.1 q hq
    rw [rZ,List.mem_cons] at p
    by_cases hqe:q=e.i
    . subst hqe
      have B:=he
      obtain⟨a,hbl,hfr,hdo⟩:=B
      refine GO.do a hbl Z (((hdo w L' H).frame hs).mono ?_)
      rintro _ w' ⟨g,rfl,hp,H'⟩
      have f:=zw H'
      refine⟨.inr (hg _ _ f), ?_⟩
      have hc:=Mo (ops:=ops) (i:=e.i) (d:=e.d) (u:=e.v g) (R:=e.R g) hx (List.Perm.refl _) Z (λ _=>rfl) h
      have hK:∀ (L2:List HP) (l2:List Nat) (z:List (Nat × ZQ)) (r:ZZ),(∀ t v,look G t=Zv v->look z t=Zv v)->Own w0 D r (sepL L2::L)->B2 ops (λ L' l F=>BM P ops Q ks Good n w0 D L fuel im dm op ty e L' l F/\kX ops.size l=kX ops.size lc/\look F e.d=Zk) e.i e.d (e.v g) (e.R g) L2 l2 z->GX P ops Q ks Good (fuel+1) l2 n z r:=by
        rintro L2 l2 z r Z5 Z6 ⟨L1,l1,Z1,⟨⟨vm,hy,S⟩,s,C⟩,E,I,J⟩
        refine GX.same (l1:=e.i::lc) ((o7 s.symm _).trans I.symm) (λ t=>(J t).symm) (qt im hi (λ Z8 _=>(hy Z8).frame (uH (λ _ _ h=>h) C _)) ?_ o)
        have Z3:Own w0 D r (sepL (e.R g++L1)::L):=((Z6.flat).perm (E.append_right _)).pack
        exact(S g hp r Z3).same (((o7 (o7 s _) _)).trans (yO hie.symm)) (xy _ _ hdm.symm)
      have M:=IG (P:=P) (Q:=Q) (ks:=ks) (Good:=Good) (n:=n) (w0:=w0) (D:=D) (L:=L) (G:=G) B2.same hg (fuel:=fuel+1) hK (m+1) es hm _ (e.i::l) _ w' (uH hs hfr (e.v g)) hE hd hk.2 f hc
      have Z4:fuel+1+(m+1)=fuel+2+m:=by omega
      rw [Z4] at M
      exact M hQ hns
    . obtain⟨us,x,bs,rfl,rfl⟩:=Cb (rZ.2 (p.resolve_left hqe))
      have b:=Ds.mid hd
      have hke:=List.all_eq_true.1 hk.1.2 x.i (List.mem_map.2 ⟨x,List.mem_append_right _ b3,Z⟩)
      rw [EL b.1] at hke
      have hin:∀ y ∈ us++bs,y ∈ us++x::bs:=λ y hy=>by
        rcases List.mem_append.1 hy with K | K
        . exact List.mem_append_left _ K
        . exact List.mem_append_right _ (.tail _ K)
      obtain⟨a,hbl,hfr,hdo⟩:=hE x (List.mem_append_right _ b3)
      have hc:=LU (FY BM.same) us L' l F b.1 h
      refine GO.do a hbl Z (((hdo w L' H).frame hs).mono ?_)
      rintro _ w' ⟨g,rfl,hp,H'⟩
      have f:=zw H'
      refine⟨.inr (hg _ _ f),II hg hi he hdm hie hgd j k o m (us++bs) ?_ _ (x.i::l) _ w' (uH hs hfr _) (λ y hy=>hE y (hin y hy)) (λ y hy=>hx y (hin y hy)) b.2 hke f (hc g hp) hQ hns⟩
      simp only [List.length_append,List.length_cons] at hm ⊢; omega
theorem Ja {A B:List HP} {l:List Nat} {F:List (Nat × ZQ)} {w:ZZ} {fuel dm:Nat} {op:Op} {ty:TypeId} {pos:String} {aft:Array Edge} (a e:Eff) (im k:Nat) (H:Own w0 D w L) (hE:yP P ops n w0 D L F (e:: [a])) (hi:ops[im]? =Zv ⟨Zv dm,op,ty,pos,aft,Zk⟩)
    (h:Cn (BM P ops Q ks (λ Z8=> ∃ L',Own w0 D Z8 (A++L')) n w0 D L fuel im dm op ty e) [a] [] l F) (hdm:look F dm=Zk:=by exact Z) (hA:DF k L=Zv (A,B):=by exact Z) (b:xz (im::e.i::Zh Eff.i [a])=Zj:=by exact Z) (f:xz (dm::e.d::Zh Eff.d [a])=Zj:=by exact Z)
    (hk:(Ee ops e.i 1 (Zh Eff.i [a]) l && vR ops ks im (EN [a] l) dm n && dx ops e.i (im::EN [a] l) && vR ops ks im (e.i::EN [a] l) dm n)=Zj:=by kernel_rfl):GX P ops Q ks (λ Z8=> ∃ L',Own w0 D Z8 (A++L')) (fuel+3) l n F w:=by
  have he:=yP.all hE e b3
  have hd:=GJ (es:=e:: [a]) (EM b) (EM f)
  have hx:∀ x ∈ [a],x.i≠e.i/\x.d≠e.d:=λ x hx=>⟨λ h=>(hd.1 x hx).1 h.symm,λ h=>(hd.1 x hx).2 h.symm⟩
  simp only [Bool.and_eq_true] at hk
  have j:im≠e.i:=λ h=>by subst h; simp [xz,mb] at b
  have o:dm≠e.d:=λ h=>by subst h; simp [xz,mb] at f
  exact II (λ w' L' H=>⟨B++ [sepL L'],by
    have g:=H.perm (List.perm_append_comm (l₁:= [sepL L']) (l₂:=L))
    rw [BX k L A B hA,List.append_assoc] at g; exact g⟩) hi he o j hdm hk.1.1.2 hk.1.2 hk.2 1 [a] Z [] l F w (λ _ _ h=>h) (λ x hx=>yP.all hE x (.tail _ hx)) hx hd.2 hk.1.1.1 H.sepNil (MC he.2.2.1 (λ x hx'=>Ne.symm (hx x hx').2) h)
end
end
section
open Go.RowKit
section
variable {P:Program} {n:Nat} {F:List (Nat × ZQ)} {w:ZZ} {ty Z7 e sz bytes m c:Nat} {A:Option Addr} {x:Operand}
theorem FZ (el:Elem P Z7 e sz bytes) {i j q:Nat} {k k' k2:IntKind} (a:i<=j) (b:j<=q) (d:q<=c):(Instr.slice Z7 (.slice A m c) (some (.int k (i:Int))) (some (.int k' (j:Int))) (some (.int k2 (q:Int)))).run P w= .ok (.slice (fA A i sz q) (j - i) (q - i)) w:=by
  obtain⟨_,_,ht,hi,_,rfl,_⟩:=el
  have ht':P.underlying Z7=some (.slice (P.elem Z7)):=by rw [pQ ht]; exact ht
  rw [run_slice_any w Z7 A m c ht']
  simp [Instr.sliceBounds,Instr.sliceBound,asIntOf,a,b,d,Result.andThen,sizeOf,typeInfo,pQ ht,hi,sliced,fA]
theorem Lx {lx hx' mx:Operand} {i j q:Nat} {k k' k2:IntKind} (el:Elem P Z7 e sz bytes) (hx:ev F x=Zv (T A m c)) (hl:ev F lx=Zv (.int k (i:Int))) (hh:ev F hx'=Zv (.int k' (j:Int))) (hm:ev F mx=Zv (.int k2 (q:Int))) (a:i<=j) (b:j<=q) (d:q<=c):
    Yl P n F w (.slice Z7 x (some lx) (some hx') (some mx)) ty (.slice (fA A i sz q) (j - i) (q - i)):=
  L6 (lo:=Zv lx) (hi:=Zv hx') (mx:=Zv mx) (lo':=Zv (.int k (i:Int))) (hi':=Zv (.int k' (j:Int))) (mx':=Zv (.int k2 (q:Int))) el hx (by simp [hl]) (by simp [hh]) (by simp [hm]) (FZ el a b d)
end
end
end Go.Proofs.YtnpdpklckacpnaaGreat
