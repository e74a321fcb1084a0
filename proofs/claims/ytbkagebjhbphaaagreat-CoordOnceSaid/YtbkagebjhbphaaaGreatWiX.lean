/-
  A shift by a number that varies.
  Conditions: none.
-/
import Derived.Test.YtbkagebjhbphaaaGreatKm
import Derived.MapKept
import Derived.Test.YtbkagebjhbphaaaGreatKy
namespace Go.Proofs.YtbkagebjhbphaaaGreat
set_option linter.unusedVariables false
set_option linter.unusedSimpArgs false
set_option linter.unusedSectionVars false
open Go.RowKit
section
variable {κ ν:Type} [DecidableEq κ]
def nU:List (κ × ν)→κ→Option ν
  | [],_=>none
  | (a,b)::r,k=>if a=k then some b else nU r k
def kL:List (κ × ν)→κ→ν→List (κ × ν)
  | [],k,v=> [(k,v)]
  | (a,b)::r,k,v=>if a=k then(k,v)::r else(a,b)::kL r k v
theorem xz:∀ (m:List (κ × ν)) (k j:κ) (v:ν),nU (kL m k v) j=if k=j then some v else nU m j
  | [],k,j,v=>rfl
  | (a,b)::r,k,j,v=>by
    unfold kL
    by_cases h:a=k
    · subst h
      rw [if_pos rfl]
      unfold nU
      by_cases c:a=j
      · rw [if_pos c,if_pos c]
      · rw [if_neg c,if_neg c,if_neg c]
    · rw [if_neg h]
      show (if a=j then some b else nU (kL r k v) j)=_
      rw [xz r k j v]
      by_cases c:a=j
      · subst c
        rw [if_pos rfl,if_neg (fun e=>h e.symm)]
        exact(if_pos rfl).symm
      · rw [if_neg c]
        show _=if k=j then some v else(if a=j then some b else nU r j)
        rw [if_neg c]
theorem zt:∀ {m:List (κ × ν)} {k:κ},(∀ p ∈ m,p.1≠k)→nU m k=none
  | [],_,_=>rfl
  | (a,b)::r,k,h=>by
    unfold nU
    rw [if_neg (h _ b1)]
    exact zt fun p hp=>h p (.tail _ hp)
theorem BI:∀ {m:List (κ × ν)} {j:Nat} {k:κ} {v:ν},(m.map Prod.fst).Nodup→m[j]? =some (k,v)→nU m k=some v
  | [],_,_,_,_,h=>by simp at h
  | (a,b)::r,0,k,v,hn,h=>by
    simp only [List.getElem?_cons_zero,Option.some.injEq,Prod.mk.injEq] at h
    unfold nU
    rw [if_pos h.1,h.2]
  | (a,b)::r,j+1,k,v,hn,h=>by
    simp only [List.getElem?_cons_succ] at h
    simp only [List.map_cons,List.nodup_cons] at hn
    have hm:k ∈ r.map Prod.fst:=List.mem_map.2 ⟨(k,v),List.mem_of_getElem? h,rfl⟩
    unfold nU
    rw [if_neg (fun e:a=k=>hn.1 (by rw [e]; exact hm))]
    exact BI hn.2 h
theorem Ao:∀ {m:List (κ × ν)} {k:κ} {v:ν},(∀ p ∈ m,p.1≠k)→kL m k v=m++ [(k,v)]
  | [],_,_,_=>rfl
  | (a,b)::r,k,v,h=>by
    unfold kL
    rw [if_neg (h _ b1),Ao fun p hp=>h p (.tail _ hp)]
    rfl
theorem BJ:∀ {m:List (κ × ν)} {j:Nat} {k:κ} {b v:ν},(m.map Prod.fst).Nodup→m[j]? =some (k,b)→kL m k v=m.set j (k,v)
  | [],_,_,_,_,_,h=>by simp at h
  | (a,c)::r,0,k,b,v,hn,h=>by
    simp only [List.getElem?_cons_zero,Option.some.injEq,Prod.mk.injEq] at h
    unfold kL
    rw [if_pos h.1]
    rfl
  | (a,c)::r,j+1,k,b,v,hn,h=>by
    simp only [List.getElem?_cons_succ] at h
    simp only [List.map_cons,List.nodup_cons] at hn
    have hm:k ∈ r.map Prod.fst:=List.mem_map.2 ⟨(k,b),List.mem_of_getElem? h,rfl⟩
    unfold kL
    rw [if_neg (fun e:a=k=>hn.1 (by rw [e]; exact hm)),BJ hn.2 h]
    rfl
theorem vS:∀ (m:List (κ × ν)) (k:κ) (v:ν),(m.map Prod.fst).Nodup→((kL m k v).map Prod.fst).Nodup∧∀ q,q ∈ (kL m k v).map Prod.fst→q=k∨q ∈ m.map Prod.fst
  | [],k,v,_=>⟨by simp [kL],fun q hq=> .inl (by simpa [kL] using hq)⟩
  | (a,b)::r,k,v,hn=>by
    simp only [List.map_cons,List.nodup_cons] at hn
    unfold kL
    by_cases h:a=k
    · subst h
      rw [if_pos rfl]
      exact⟨by simp only [List.map_cons,List.nodup_cons]; exact hn,fun q hq=> .inr hq⟩
    · rw [if_neg h]
      obtain⟨d,c⟩:=vS r k v hn.2
      refine⟨?_,fun q hq=> ?_⟩
      · simp only [List.map_cons,List.nodup_cons]
        refine⟨fun hm=> ?_,d⟩
        rcases c a hm with e | e
        · exact h e
        · exact hn.1 e
      · simp only [List.map_cons,List.mem_cons] at hq ⊢
        rcases hq with e | e
        · exact .inr (.inl e)
        · rcases c q e with e | e
          · exact .inl e
          · exact .inr (.inr e)
end
structure Cx {κ:Type} (P:Program) (kt:TypeId) (ek:κ→Value):Prop where
  key:∃ d,P.underlying kt=some d∧∀ a,Go.MapKept.IsKey d (ek a)
  inj:∀ a b,ek a=ek b→a=b
  same:∀ a,Instr.sameBits 10000 (ek a) (ek a)=true
def l5 {κ ν:Type} (g:Nat) (ek:κ→Value) (vv:ν→Value) (m:List (κ × ν)):HP:=fun h=>(m.map Prod.fst).Nodup∧∃ (es:Array MapEntry) (clock:Nat),h g=some (.map es clock)∧es.toList.map (fun e=>(e.key,e.val))=m.map fun p=>(ek p.1,vv p.2)
section
variable {κ ν:Type} [DecidableEq κ] {P:Program} {n:Nat} {F:List (Nat × Value)} {w0 w:World} {D:Nat→Prop} {L:List HP} {ty t kt e:TypeId} {K:Value→World→Prop} {x y q:Operand} {ek:κ→Value} {vv:ν→Value} {m:List (κ × ν)} {g i:Nat} {z:Value} {d0:ν}
theorem Own.mapAt (H:Own w0 D w L) (hi:L[i]? =some (l5 g ek vv m)) (K:Cx P kt ek) (k:κ):∃ es clock d,w.heap[g]? =some (.map es clock)∧es.toList.map (fun e=>(e.key,e.val))=m.map (fun p=>(ek p.1,vv p.2))∧(m.map Prod.fst).Nodup∧P.underlying kt=some d∧Go.MapKept.IsKey d (ek k)∧
    ((Instr.findNow d (ek k) es.toList 0=some none∧(∀ p ∈ m,p.1≠k))∨∃ j v,Instr.findNow d (ek k) es.toList 0=some (some (j,vv v))∧m[j]? =some (k,v)):=by
  obtain⟨h,⟨hn,es,clock,r,f⟩,s⟩:=H.get hi
  obtain⟨d,hd,hk⟩:=K.key
  refine⟨es,clock,d,s g _ r,f,hn,hd,hk k, ?_⟩
  have hkeys:∀ x ∈ es.toList,Go.MapKept.IsKey d x.key:=fun x hx=>by
    have:(x.key,x.val) ∈ m.map fun p=>(ek p.1,vv p.2):=by rw [← f]; exact List.mem_map.2 ⟨x,hx,rfl⟩
    obtain⟨p,_,hp⟩:=List.mem_map.1 this
    injection hp with hp _
    rw [← hp]; exact hk _
  rcases Go.MapKept.findNow_spec (hk k) es.toList 0 hkeys with ⟨a,b⟩ | ⟨j,o,a,b,c⟩
  · refine .inl ⟨a,fun p hp e=> ?_⟩
    have:(ek p.1,vv p.2) ∈ es.toList.map fun e=>(e.key,e.val):=by rw [f]; exact List.mem_map.2 ⟨p,hp,rfl⟩
    obtain⟨x,hx,he⟩:=List.mem_map.1 this
    injection he with he _
    exact b x hx (he.trans (by rw [e]))
  · rw [Nat.zero_add] at a
    have hj:(m.map fun p=>(ek p.1,vv p.2))[j]? =some (o.key,o.val):=by rw [← f,List.getElem?_map,b]; rfl
    rw [List.getElem?_map] at hj
    cases hm:m[j]? with
    | none=>rw [hm] at hj; cases hj
    | some p=>
      rw [hm] at hj
      simp only [Option.map_some,Option.some.injEq,Prod.mk.injEq] at hj
      have l:=K.inj _ _ (hj.1.trans c)
      refine .inr ⟨j,p.2,by rw [a,hj.2], ?_⟩
      rw [hm, ← l]
theorem JS {k:κ} {o:Option ν} (H:Own w0 D w L) (hi:L[i]? =some (l5 g ek vv m)) (K:Cx P kt ek) (ht:P.underlying t=some (.map kt e)) (hz:∀ W,(zeroValue e).run P W= .ok (vv d0) W) (hx:ev F x=some (.map (some g))) (hy:ev F y=some (ek k)) (ho:nU m k=o):
    Yl P n F w (.lookup t x y false) ty (vv (o.getD d0)):=fun a ha op b _=>by
  subst ho
  obtain⟨es,clock,d,hb,_,hn,hd,hk,hf⟩:=H.mapAt hi K k
  unfold execOp
  rw [b]
  simp only [ha.eval hx,ha.eval hy]
  rcases hf with ⟨hf,hno⟩ | ⟨j,v,hf,hj⟩
  · rw [zt hno]
    simp [Instr.lookup,run_underlying ht,Go.MapKept.run_getObj_map hb,Go.MapKept.run_checkKey hd hk,Go.MapKept.run_findKey hd hf,hz w,Result.andThen]
  · rw [BI hn hj]
    simp [Instr.lookup,run_underlying ht,Go.MapKept.run_getObj_map hb,Go.MapKept.run_checkKey hd hk,Go.MapKept.run_findKey hd hf,Result.andThen]
theorem Own.mapSet {m':List (κ × ν)} {es':Array MapEntry} {clock':Nat} (H:Own w0 D w (l5 g ek vv m::L)) (hn:(m'.map Prod.fst).Nodup) (he:es'.toList.map (fun e=>(e.key,e.val))=m'.map fun p=>(ek p.1,vv p.2)):
    Own w0 D { w with heap:=w.heap.setIfInBounds g (.map es' clock') } (l5 g ek vv m'::L):=by
  refine H.upd rfl rfl rfl i8 fun h ⟨_,es,clock,b,_⟩ hk=> ?_
  have hb:=hk g _ b
  obtain⟨c,d⟩:=Go.MapKept.heap_set (o':=Obj.map es' clock') hb
  refine⟨fun k=>if k=g then some (.map es' clock') else none,⟨hn,es',clock',by simp,he⟩,fun k o hk'=> ?_,fun k f a=> ?_⟩
  · by_cases e:k=g
    · subst e
      simp only [if_true,Option.some.injEq] at hk'
      subst hk'
      exact⟨c, .inl (by rw [b]; exact Option.some_ne_none _)⟩
    · simp only [e,if_false] at hk'; cases hk'
  · exact d k (fun e=>by subst e; rw [b] at a; cases a)
theorem Jf {k:κ} {v:ν} (H:Own w0 D w (l5 g ek vv m::L)) (K':Cx P kt ek) (ht:P.underlying t=some (.map kt e)) (hx:ev F x=some (.map (some g))) (hy:ev F y=some (ek k)) (hq:ev F q=some (vv v))
    (h:∀ w',Own w0 D w' (l5 g ek vv (kL m k v)::L)→K undef w'):Do P n F w (.mapUpdate t x y q) ty K:=fun a ha op b c next Q hnx=>by
  obtain⟨es,clock,d,hb,he,hn,hd,hk,hf⟩:=H.mapAt (i:=0) rfl K' k
  unfold execOp
  rw [b]
  simp only [ha.eval hx,ha.eval hy,ha.eval hq]
  rcases hf with ⟨hf,hno⟩ | ⟨j,u,hf,hj⟩
  · have hrun:(Instr.mapUpdate t (.map (some g)) (ek k) (vv v)).run P w= .ok () { w with heap:=w.heap.setIfInBounds g (.map (es.push { key:=ek k,val:=vv v,born:=clock }) (clock+1)) }:=by
      simp [Instr.mapUpdate,run_underlying ht,Go.MapKept.run_getObj_map hb,Go.MapKept.run_checkKey hd hk,Go.MapKept.run_findKey hd hf,Go.MapKept.run_setObj_map _ hb,Result.andThen]
    have H':=H.mapSet (m':=kL m k v) (es':=es.push { key:=ek k,val:=vv v,born:=clock }) (clock':=clock+1) (vS m k v hn).1 (by rw [Ao hno,Array.toList_push,List.map_append,List.map_append,he]; rfl)
    simp only [Sem.run_bind,Sem.run_pure,Result.andThen_ok,hrun]
    exact hnx _ _ (h _ H')
  · have hj':(es.toList.map fun e=>(e.key,e.val))[j]? =some (ek k,vv u):=by rw [he,List.getElem?_map,hj]; rfl
    rw [List.getElem?_map,Array.getElem?_toList] at hj'
    cases hej:es[j]? with
    | none=>rw [hej] at hj'; cases hj'
    | some f=>
      rw [hej] at hj'
      simp only [Option.map_some,Option.some.injEq,Prod.mk.injEq] at hj'
      have hks:(Instr.keyThatStays (((es[j]?).map (·.key)).getD (ek k)) (ek k)).run P w= .ok (ek k) w:=by
        unfold Instr.keyThatStays
        rw [hej]
        simp only [Option.map_some,Option.getD_some,hj'.1,K'.same k,if_true]
        rfl
      have hrun:(Instr.mapUpdate t (.map (some g)) (ek k) (vv v)).run P w= .ok () { w with heap:=w.heap.setIfInBounds g (.map (es.modify j fun e=> { e with key:=ek k,val:=vv v }) clock) }:=by
        simp only [Instr.mapUpdate,Sem.run_bind,run_underlying ht,Go.MapKept.run_getObj_map hb,Go.MapKept.run_checkKey hd hk,Go.MapKept.run_findKey hd hf,Result.andThen_ok,hks,Go.MapKept.run_setObj_map _ hb]
      have hset:(es.modify j fun e=> { e with key:=ek k,val:=vv v }).toList.map (fun e=>(e.key,e.val))=(kL m k v).map fun p=>(ek p.1,vv p.2):=by
        rw [BJ hn hj]
        apply List.ext_getElem?
        intro l
        have hel:(es.toList.map fun e=>(e.key,e.val))[l]? =(m.map fun p=>(ek p.1,vv p.2))[l]? :=by rw [he]
        simp only [List.getElem?_map,Array.getElem?_toList,Array.getElem?_modify,List.getElem?_set] at hel ⊢
        by_cases hjl:j=l
        · subst hjl
          have hlt:j < m.length:=(List.getElem?_eq_some_iff.1 hj).1
          simp [hej,hlt]
        · simp only [hjl,if_false]
          exact hel
      have H':=H.mapSet (m':=kL m k v) (clock':=clock) (vS m k v hn).1 hset
      simp only [Sem.run_bind,Sem.run_pure,Result.andThen_ok,hrun]
      exact hnx _ _ (h _ H')
theorem JN (ek:κ→Value) (vv:ν→Value) (H:Own w0 D w L) (h:∀ g w',Own w0 D w' (l5 g ek vv ([]:List (κ × ν))::L)→K (.map (some g)) w'):Do P n F w (.makeMap t none) ty K:=fun a ha op b c next Q hnx=>by
  unfold execOp
  rw [b]
  have hrun:(Instr.makeMap t none).run P w= .ok (.map (some w.heap.size)) (w.alloc (.map #[] 0)):=by
    simp [Instr.makeMap,Result.andThen]
  simp only [Option.map_none,Sem.run_bind,Sem.run_pure,Result.andThen_ok,hrun]
  exact hnx _ _ (h _ _ (H.alloc _ ⟨by simp, #[],0,by simp,rfl⟩))
theorem zu {L:List HP} (h:∀ R ∈ L,R fun _=>none):sepL L fun _=>none:=⟨fun _ _=>none,fun i R hi=>h R (List.mem_of_getElem? hi),fun _ _ _ hk=>(by cases hk),fun _ _ _ _=> .inl rfl⟩
theorem uX {α:Type} {f:α→List HP} {x:α} {n:Nat} (h:∀ R ∈ f x,R fun _=>none):sepL (List.flatMap f (List.replicate n x)) fun _=>none:=zu fun R hR=>by
  obtain⟨y,hy,hR⟩:=List.mem_flatMap.1 hR
  rw [(List.mem_replicate.1 hy).2] at hR
  exact h R hR
theorem xA {R:HP} (h:R fun _=>none):∀ S ∈ [R],S fun _=>none:=fun S hS=>by rw [List.mem_singleton.1 hS]; exact h
end
end Go.Proofs.YtbkagebjhbphaaaGreat
namespace Go.Proofs.YtbkagebjhbphaaaGreat
set_option linter.unusedVariables false
set_option linter.unusedSimpArgs false
set_option linter.unusedSectionVars false
open Go.RowKit
structure Ia {κ:Type} (P:Program) (kt:TypeId) (ek:κ→Value):Prop where
  check:∀ (em:Bool) (a:κ) (w:World),(Instr.checkKey em 10000 kt (ek a)).run P w= .ok () w
  find:∀ (a:κ) (w:World) (es:List MapEntry) (ks:List κ),es.map (·.key)=ks.map ek→
    ((Instr.findKey kt (ek a) es).run P w= .ok none w∧a ∉ ks)∨∃ j e,(Instr.findKey kt (ek a) es).run P w= .ok (some (j,e.val)) w∧es[j]? =some e∧ks[j]? =some a
  stay:∀ (a:κ) (w:World),(Instr.keyThatStays (ek a) (ek a)).run P w= .ok (ek a) w
section
variable {κ:Type} [DecidableEq κ] {P:Program} {kt:TypeId} {ek:κ→Value}
end
section
variable {P:Program} {t:TypeId} {k:IntKind}
end
section
variable {κ ν δ τ:Type} [DecidableEq κ]
theorem getD_some {o:Option ν} {d x:ν} (h:o=some x):Option.getD o d=x:=by rw [h]; rfl
end
section
variable {κ ν:Type} [DecidableEq κ] {P:Program} {n:Nat} {F:List (Nat × Value)} {w0 w:World} {D:Nat→Prop} {L:List HP} {ty t kt e:TypeId} {K:Value→World→Prop} {x y q:Operand} {ek:κ→Value} {vv:ν→Value} {m:List (κ × ν)} {g i:Nat} {z:Value} {d0:ν}
end
section
variable {κ δ τ:Type} [DecidableEq κ] {abs:δ→τ} {m:List (κ × δ)} {mab:List (κ × τ)} {k:κ}
end
end Go.Proofs.YtbkagebjhbphaaaGreat
namespace Go.Proofs.YtbkagebjhbphaaaGreat
open Go.RowKit
section
variable {P:Program} {n:Nat} {F:List (Nat × Value)} {w:World} {ty:TypeId} {x y:Operand}
end
end Go.Proofs.YtbkagebjhbphaaaGreat
