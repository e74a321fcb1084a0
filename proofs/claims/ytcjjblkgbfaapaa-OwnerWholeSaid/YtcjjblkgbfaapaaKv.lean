/-
  Maps as owned things: lookups, updates, new maps, clear, delete as steps.
  Conditions: none beyond each law's own.
-/
import Derived.Test.YtcjjblkgbfaapaaKm
import Derived.MapKept
namespace Go.Proofs.Ytcjjblkgbfaapaa
set_option linter.unusedVariables false
set_option linter.unusedSimpArgs false
set_option linter.unusedSectionVars false
open Go.RowKit
section
variable {κ ν : Type} [DecidableEq κ]
def mget : List (κ × ν) → κ → Option ν
  | [], _ => none
  | (a, b) :: r, k => if a = k then some b else mget r k
def mput : List (κ × ν) → κ → ν → List (κ × ν)
  | [], k, v => [(k, v)]
  | (a, b) :: r, k, v => if a = k then (k, v) :: r else (a, b) :: mput r k v
theorem mget_put : ∀ (m : List (κ × ν)) (k j : κ) (v : ν), mget (mput m k v) j = if k = j then some v else mget m j
  | [], k, j, v => rfl
  | (a, b) :: r, k, j, v => by
    unfold mput
    by_cases h : a = k
    · subst h
      rw [if_pos rfl]
      unfold mget
      by_cases h2 : a = j
      · rw [if_pos h2, if_pos h2]
      · rw [if_neg h2, if_neg h2, if_neg h2]
    · rw [if_neg h]
      show (if a = j then some b else mget (mput r k v) j) = _
      rw [mget_put r k j v]
      by_cases h2 : a = j
      · subst h2
        rw [if_pos rfl, if_neg (fun e => h e.symm)]
        exact (if_pos rfl).symm
      · rw [if_neg h2]
        show _ = if k = j then some v else (if a = j then some b else mget r j)
        rw [if_neg h2]
theorem mget_none : ∀ {m : List (κ × ν)} {k : κ}, (∀ p ∈ m, p.1 ≠ k) → mget m k = none
  | [], _, _ => rfl
  | (a, b) :: r, k, h => by
    unfold mget
    rw [if_neg (h _ (.head _))]
    exact mget_none fun p hp => h p (.tail _ hp)
theorem mget_at : ∀ {m : List (κ × ν)} {j : Nat} {k : κ} {v : ν}, (m.map Prod.fst).Nodup → m[j]? = some (k, v) → mget m k = some v
  | [], _, _, _, _, h => by simp at h
  | (a, b) :: r, 0, k, v, hn, h => by
    simp only [List.getElem?_cons_zero, Option.some.injEq, Prod.mk.injEq] at h
    unfold mget
    rw [if_pos h.1, h.2]
  | (a, b) :: r, j + 1, k, v, hn, h => by
    simp only [List.getElem?_cons_succ] at h
    simp only [List.map_cons, List.nodup_cons] at hn
    have hm : k ∈ r.map Prod.fst := List.mem_map.2 ⟨(k, v), List.mem_of_getElem? h, rfl⟩
    unfold mget
    rw [if_neg (fun e : a = k => hn.1 (by rw [e]; exact hm))]
    exact mget_at hn.2 h
theorem mput_new : ∀ {m : List (κ × ν)} {k : κ} {v : ν}, (∀ p ∈ m, p.1 ≠ k) → mput m k v = m ++ [(k, v)]
  | [], _, _, _ => rfl
  | (a, b) :: r, k, v, h => by
    unfold mput
    rw [if_neg (h _ (.head _)), mput_new fun p hp => h p (.tail _ hp)]
    rfl
theorem mput_at : ∀ {m : List (κ × ν)} {j : Nat} {k : κ} {b v : ν}, (m.map Prod.fst).Nodup → m[j]? = some (k, b) → mput m k v = m.set j (k, v)
  | [], _, _, _, _, _, h => by simp at h
  | (a, c) :: r, 0, k, b, v, hn, h => by
    simp only [List.getElem?_cons_zero, Option.some.injEq, Prod.mk.injEq] at h
    unfold mput
    rw [if_pos h.1]
    rfl
  | (a, c) :: r, j + 1, k, b, v, hn, h => by
    simp only [List.getElem?_cons_succ] at h
    simp only [List.map_cons, List.nodup_cons] at hn
    have hm : k ∈ r.map Prod.fst := List.mem_map.2 ⟨(k, b), List.mem_of_getElem? h, rfl⟩
    unfold mput
    rw [if_neg (fun e : a = k => hn.1 (by rw [e]; exact hm)), mput_at hn.2 h]
    rfl
theorem mput_keys : ∀ (m : List (κ × ν)) (k : κ) (v : ν), (m.map Prod.fst).Nodup → ((mput m k v).map Prod.fst).Nodup ∧ ∀ q, q ∈ (mput m k v).map Prod.fst → q = k ∨ q ∈ m.map Prod.fst
  | [], k, v, _ => ⟨by simp [mput], fun q hq => .inl (by simpa [mput] using hq)⟩
  | (a, b) :: r, k, v, hn => by
    simp only [List.map_cons, List.nodup_cons] at hn
    unfold mput
    by_cases h : a = k
    · subst h
      rw [if_pos rfl]
      exact ⟨by simp only [List.map_cons, List.nodup_cons]; exact hn, fun q hq => .inr hq⟩
    · rw [if_neg h]
      obtain ⟨h1, h2⟩ := mput_keys r k v hn.2
      refine ⟨?_, fun q hq => ?_⟩
      · simp only [List.map_cons, List.nodup_cons]
        refine ⟨fun hm => ?_, h1⟩
        rcases h2 a hm with e | e
        · exact h e
        · exact hn.1 e
      · simp only [List.map_cons, List.mem_cons] at hq ⊢
        rcases hq with e | e
        · exact .inr (.inl e)
        · rcases h2 q e with e | e
          · exact .inl e
          · exact .inr (.inr e)
end
@[reducible] def kI (i : Int) : Value := .int .i64 i
structure KeyK {κ : Type} (P : Program) (kt : TypeId) (ek : κ → Value) : Prop where
  key : ∃ d, P.underlying kt = some d ∧ ∀ a, Go.MapKept.IsKey d (ek a)
  inj : ∀ a b, ek a = ek b → a = b
  same : ∀ a, Instr.sameBits 10000 (ek a) (ek a) = true
def mapr {κ ν : Type} (g : Nat) (ek : κ → Value) (vv : ν → Value) (m : List (κ × ν)) : HP := fun h => (m.map Prod.fst).Nodup ∧ ∃ (es : Array MapEntry) (clock : Nat), h g = some (.map es clock) ∧ es.toList.map (fun e => (e.key, e.val)) = m.map fun p => (ek p.1, vv p.2)
section
variable {κ ν : Type} [DecidableEq κ] {P : Program} {n : Nat} {F : List (Nat × Value)} {w0 w : World} {D : Nat → Prop} {L : List HP} {ty t kt e : TypeId} {K : Value → World → Prop} {x y q : Operand} {ek : κ → Value} {vv : ν → Value} {m : List (κ × ν)} {g i : Nat} {z : Value} {d0 : ν}
theorem eK_int {kt : TypeId} (hk : P.underlying kt = some (.int .i64)) : KeyK P kt kI := by
  refine ⟨⟨_, hk, fun a => by simp [Go.MapKept.IsKey]⟩, fun a b h => ?_, fun a => ?_⟩
  · injection h
  · simp [Instr.sameBits]
theorem Own.mapAt (H : Own w0 D w L) (hi : L[i]? = some (mapr g ek vv m)) (K : KeyK P kt ek) (k : κ) : ∃ es clock d, w.heap[g]? = some (.map es clock) ∧ es.toList.map (fun e => (e.key, e.val)) = m.map (fun p => (ek p.1, vv p.2)) ∧ (m.map Prod.fst).Nodup ∧ P.underlying kt = some d ∧ Go.MapKept.IsKey d (ek k) ∧
    ((Instr.findNow d (ek k) es.toList 0 = some none ∧ (∀ p ∈ m, p.1 ≠ k)) ∨ ∃ j v, Instr.findNow d (ek k) es.toList 0 = some (some (j, vv v)) ∧ m[j]? = some (k, v)) := by
  obtain ⟨h, ⟨hn, es, clock, h1, h2⟩, h3⟩ := H.get hi
  obtain ⟨d, hd, hk⟩ := K.key
  refine ⟨es, clock, d, h3 g _ h1, h2, hn, hd, hk k, ?_⟩
  have hkeys : ∀ x ∈ es.toList, Go.MapKept.IsKey d x.key := fun x hx => by
    have : (x.key, x.val) ∈ m.map fun p => (ek p.1, vv p.2) := by rw [← h2]; exact List.mem_map.2 ⟨x, hx, rfl⟩
    obtain ⟨p, _, hp⟩ := List.mem_map.1 this
    injection hp with hp _
    rw [← hp]; exact hk _
  rcases Go.MapKept.findNow_spec (hk k) es.toList 0 hkeys with ⟨a, b⟩ | ⟨j, e0, a, b, c⟩
  · refine .inl ⟨a, fun p hp e => ?_⟩
    have : (ek p.1, vv p.2) ∈ es.toList.map fun e => (e.key, e.val) := by rw [h2]; exact List.mem_map.2 ⟨p, hp, rfl⟩
    obtain ⟨x, hx, he⟩ := List.mem_map.1 this
    injection he with he _
    exact b x hx (he.trans (by rw [e]))
  · rw [Nat.zero_add] at a
    have hj : (m.map fun p => (ek p.1, vv p.2))[j]? = some (e0.key, e0.val) := by rw [← h2, List.getElem?_map, b]; rfl
    rw [List.getElem?_map] at hj
    cases hm : m[j]? with
    | none => rw [hm] at hj; cases hj
    | some p =>
      rw [hm] at hj
      simp only [Option.map_some, Option.some.injEq, Prod.mk.injEq] at hj
      have hk1 := K.inj _ _ (hj.1.trans c)
      refine .inr ⟨j, p.2, by rw [a, hj.2], ?_⟩
      rw [hm, ← hk1]
theorem Yl.lookup {k : κ} {o : Option ν} (H : Own w0 D w L) (hi : L[i]? = some (mapr g ek vv m)) (K : KeyK P kt ek) (ht : P.underlying t = some (.map kt e)) (hz : ∀ W, (zeroValue e).run P W = .ok (vv d0) W) (hx : ev F x = some (.map (some g))) (hy : ev F y = some (ek k)) (ho : mget m k = o) :
    Yl P n F w (.lookup t x y false) ty (vv (o.getD d0)) := fun a ha op h1 _ => by
  subst ho
  obtain ⟨es, clock, d, hb, _, hn, hd, hk, hf⟩ := H.mapAt hi K k
  unfold execOp
  rw [h1]
  simp only [ha.eval hx, ha.eval hy]
  rcases hf with ⟨hf, hno⟩ | ⟨j, v, hf, hj⟩
  · rw [mget_none hno]
    simp [Instr.lookup, run_underlying ht, Go.MapKept.run_getObj_map hb, Go.MapKept.run_checkKey hd hk, Go.MapKept.run_findKey hd hf, hz w, Result.andThen]
  · rw [mget_at hn hj]
    simp [Instr.lookup, run_underlying ht, Go.MapKept.run_getObj_map hb, Go.MapKept.run_checkKey hd hk, Go.MapKept.run_findKey hd hf, Result.andThen]
theorem Own.mapSet {m' : List (κ × ν)} {es' : Array MapEntry} {clock' : Nat} (H : Own w0 D w (mapr g ek vv m :: L)) (hn : (m'.map Prod.fst).Nodup) (he : es'.toList.map (fun e => (e.key, e.val)) = m'.map fun p => (ek p.1, vv p.2)) :
    Own w0 D { w with heap := w.heap.setIfInBounds g (.map es' clock') } (mapr g ek vv m' :: L) := by
  refine H.upd rfl rfl rfl (by simp) fun h1 ⟨_, es, clock, r1, _⟩ hk => ?_
  have hb := hk g _ r1
  obtain ⟨s1, s2⟩ := Go.MapKept.heap_set (o' := Obj.map es' clock') hb
  refine ⟨fun k => if k = g then some (.map es' clock') else none, ⟨hn, es', clock', by simp, he⟩, fun k o hk' => ?_, fun k hk1 hk2 => ?_⟩
  · by_cases e : k = g
    · subst e
      simp only [if_true, Option.some.injEq] at hk'
      subst hk'
      exact ⟨s1, .inl (by rw [r1]; exact Option.some_ne_none _)⟩
    · simp only [e, if_false] at hk'; cases hk'
  · exact s2 k (fun e => by subst e; rw [r1] at hk2; cases hk2)
theorem Do.mapUpdate {k : κ} {v : ν} (H : Own w0 D w (mapr g ek vv m :: L)) (K' : KeyK P kt ek) (ht : P.underlying t = some (.map kt e)) (hx : ev F x = some (.map (some g))) (hy : ev F y = some (ek k)) (hq : ev F q = some (vv v))
    (h : ∀ w', Own w0 D w' (mapr g ek vv (mput m k v) :: L) → K undef w') : Do P n F w (.mapUpdate t x y q) ty K := fun a ha op h1 h2 next Q hnx => by
  obtain ⟨es, clock, d, hb, he, hn, hd, hk, hf⟩ := H.mapAt (i := 0) rfl K' k
  unfold execOp
  rw [h1]
  simp only [ha.eval hx, ha.eval hy, ha.eval hq]
  rcases hf with ⟨hf, hno⟩ | ⟨j, u, hf, hj⟩
  · have hrun : (Instr.mapUpdate t (.map (some g)) (ek k) (vv v)).run P w = .ok () { w with heap := w.heap.setIfInBounds g (.map (es.push { key := ek k, val := vv v, born := clock }) (clock + 1)) } := by
      simp [Instr.mapUpdate, run_underlying ht, Go.MapKept.run_getObj_map hb, Go.MapKept.run_checkKey hd hk, Go.MapKept.run_findKey hd hf, Go.MapKept.run_setObj_map _ hb, Result.andThen]
    have H' := H.mapSet (m' := mput m k v) (es' := es.push { key := ek k, val := vv v, born := clock }) (clock' := clock + 1) (mput_keys m k v hn).1 (by rw [mput_new hno, Array.toList_push, List.map_append, List.map_append, he]; rfl)
    simp only [Sem.run_bind, Sem.run_pure, Result.andThen_ok, hrun]
    exact hnx _ _ (h _ H')
  · have hj' : (es.toList.map fun e => (e.key, e.val))[j]? = some (ek k, vv u) := by rw [he, List.getElem?_map, hj]; rfl
    rw [List.getElem?_map, Array.getElem?_toList] at hj'
    cases hej : es[j]? with
    | none => rw [hej] at hj'; cases hj'
    | some e0 =>
      rw [hej] at hj'
      simp only [Option.map_some, Option.some.injEq, Prod.mk.injEq] at hj'
      have hks : (Instr.keyThatStays (((es[j]?).map (·.key)).getD (ek k)) (ek k)).run P w = .ok (ek k) w := by
        unfold Instr.keyThatStays
        rw [hej]
        simp only [Option.map_some, Option.getD_some, hj'.1, K'.same k, if_true]
        rfl
      have hrun : (Instr.mapUpdate t (.map (some g)) (ek k) (vv v)).run P w = .ok () { w with heap := w.heap.setIfInBounds g (.map (es.modify j fun e => { e with key := ek k, val := vv v }) clock) } := by
        simp only [Instr.mapUpdate, Sem.run_bind, run_underlying ht, Go.MapKept.run_getObj_map hb, Go.MapKept.run_checkKey hd hk, Go.MapKept.run_findKey hd hf, Result.andThen_ok, hks, Go.MapKept.run_setObj_map _ hb]
      have hset : (es.modify j fun e => { e with key := ek k, val := vv v }).toList.map (fun e => (e.key, e.val)) = (mput m k v).map fun p => (ek p.1, vv p.2) := by
        rw [mput_at hn hj]
        apply List.ext_getElem?
        intro l
        have hel : (es.toList.map fun e => (e.key, e.val))[l]? = (m.map fun p => (ek p.1, vv p.2))[l]? := by rw [he]
        simp only [List.getElem?_map, Array.getElem?_toList, Array.getElem?_modify, List.getElem?_set] at hel ⊢
        by_cases hjl : j = l
        · subst hjl
          have hlt : j < m.length := (List.getElem?_eq_some_iff.1 hj).1
          simp [hej, hlt]
        · simp only [hjl, if_false]
          exact hel
      have H' := H.mapSet (m' := mput m k v) (clock' := clock) (mput_keys m k v hn).1 hset
      simp only [Sem.run_bind, Sem.run_pure, Result.andThen_ok, hrun]
      exact hnx _ _ (h _ H')
theorem Do.makeMap (ek : κ → Value) (vv : ν → Value) (H : Own w0 D w L) (h : ∀ g w', Own w0 D w' (mapr g ek vv ([] : List (κ × ν)) :: L) → K (.map (some g)) w') : Do P n F w (.makeMap t none) ty K := fun a ha op h1 h2 next Q hnx => by
  unfold execOp
  rw [h1]
  have hrun : (Instr.makeMap t none).run P w = .ok (.map (some w.heap.size)) (w.alloc (.map #[] 0)) := by
    simp [Instr.makeMap, Result.andThen]
  simp only [Option.map_none, Sem.run_bind, Sem.run_pure, Result.andThen_ok, hrun]
  exact hnx _ _ (h _ _ (H.alloc _ ⟨by simp, #[], 0, by simp, rfl⟩))
theorem sepL_free {L : List HP} (h : ∀ R ∈ L, R fun _ => none) : sepL L fun _ => none := ⟨fun _ _ => none, fun i R hi => h R (List.mem_of_getElem? hi), fun _ _ _ hk => (by cases hk), fun _ _ _ _ => .inl rfl⟩
theorem free_rep {α : Type} {f : α → List HP} {x : α} {n : Nat} (h : ∀ R ∈ f x, R fun _ => none) : sepL (List.flatMap f (List.replicate n x)) fun _ => none := sepL_free fun R hR => by
  obtain ⟨y, hy, hR⟩ := List.mem_flatMap.1 hR
  rw [(List.mem_replicate.1 hy).2] at hR
  exact h R hR
theorem free_one {R : HP} (h : R fun _ => none) : ∀ S ∈ [R], S fun _ => none := fun S hS => by rw [List.mem_singleton.1 hS]; exact h
end
end Go.Proofs.Ytcjjblkgbfaapaa
