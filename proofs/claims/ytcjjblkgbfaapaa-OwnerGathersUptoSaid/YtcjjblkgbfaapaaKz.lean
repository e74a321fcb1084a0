/-
  Maps whose keys are structs of two numbers, and whose values hold slices: what a key's type must say; lookups, updates, clear.
  Conditions: none beyond each law's own.
-/
import Derived.Test.YtcjjblkgbfaapaaKv
namespace Go.Proofs.Ytcjjblkgbfaapaa
set_option linter.unusedVariables false
set_option linter.unusedSimpArgs false
set_option linter.unusedSectionVars false
open Go.RowKit
/-- What is asked of a key's type, whatever it is. -/
structure KeyG {κ : Type} (P : Program) (kt : TypeId) (ek : κ → Value) : Prop where
  check : ∀ (em : Bool) (a : κ) (w : World), (Instr.checkKey em 10000 kt (ek a)).run P w = .ok () w
  find : ∀ (a : κ) (w : World) (es : List MapEntry) (ks : List κ), es.map (·.key) = ks.map ek →
    ((Instr.findKey kt (ek a) es).run P w = .ok none w ∧ a ∉ ks) ∨ ∃ j e, (Instr.findKey kt (ek a) es).run P w = .ok (some (j, e.val)) w ∧ es[j]? = some e ∧ ks[j]? = some a
  stay : ∀ (a : κ) (w : World), (Instr.keyThatStays (ek a) (ek a)).run P w = .ok (ek a) w
section
variable {κ : Type} [DecidableEq κ] {P : Program} {kt : TypeId} {ek : κ → Value}
/-- a struct's key: what its comparison says is all -/
theorem keyG_ask (hd : ∃ fs, P.underlying kt = some (.struct fs)) (hck : ∀ (em : Bool) (a : κ) (w : World), (Instr.checkKey em 10000 kt (ek a)).run P w = .ok () w) (hsn : ∀ (fs : Array Field) (a b : κ), Instr.sameNow (.struct fs) (ek a) (ek b) = none)
    (heq : ∀ (a b : κ) (w : World), (Op.equal kt (ek a) (ek b)).run P w = .ok (decide (a = b)) w) (hst : ∀ (a : κ) (w : World), (Instr.keyThatStays (ek a) (ek a)).run P w = .ok (ek a) w) : KeyG P kt ek := by
  refine { check := hck, stay := hst, find := fun a w es ks h => ?_ }
  · obtain ⟨fs, hfs⟩ := hd
    have ask : ∀ (es : List MapEntry) (ks : List κ) (i : Nat), es.map (·.key) = ks.map ek → ((Instr.findAsking kt (ek a) es i).run P w = .ok none w ∧ a ∉ ks) ∨ ∃ j e, (Instr.findAsking kt (ek a) es i).run P w = .ok (some (i + j, e.val)) w ∧ es[j]? = some e ∧ ks[j]? = some a := by
      intro es
      induction es with
      | nil =>
        intro ks i h
        cases ks with
        | nil => exact .inl ⟨by simp [Instr.findAsking], by simp⟩
        | cons k ks => simp at h
      | cons e es ih =>
        intro ks i h
        cases ks with
        | nil => simp at h
        | cons k ks =>
          simp only [List.map_cons, List.cons.injEq] at h
          by_cases hak : a = k
          · subst hak
            exact .inr ⟨0, e, by simp [Instr.findAsking, h.1, heq a a w], rfl, rfl⟩
          · rcases ih ks (i + 1) h.2 with ⟨h1, h2⟩ | ⟨j, e', h1, h2, h3⟩
            · exact .inl ⟨by simp [Instr.findAsking, h.1, heq a k w, hak, h1], by simp [hak, h2]⟩
            · exact .inr ⟨j + 1, e', by simp [Instr.findAsking, h.1, heq a k w, hak, h1, Nat.add_assoc, Nat.add_comm 1 j], by simpa using h2, by simpa using h3⟩
    have hrun : ∀ r, (Instr.findAsking kt (ek a) es 0).run P w = .ok r w → (es = [] → r = none) → (Instr.findKey kt (ek a) es).run P w = .ok r w := by
      intro r hr he
      unfold Instr.findKey
      cases es with
      | nil => simp [run_underlying hfs, Instr.findNow, he rfl]
      | cons e es =>
        cases ks with
        | nil => simp at h
        | cons k ks =>
          simp only [List.map_cons, List.cons.injEq] at h
          simp [run_underlying hfs, Instr.findNow, h.1, hsn fs a k, hr]
    rcases ask es ks 0 h with ⟨h1, h2⟩ | ⟨j, e, h1, h2, h3⟩
    · exact .inl ⟨hrun _ h1 (fun _ => rfl), h2⟩
    · rw [Nat.zero_add] at h1
      exact .inr ⟨j, e, hrun _ h1 (fun he => by subst he; simp at h2), h2, h3⟩
end
section
variable {P : Program} {t : TypeId} {k : IntKind}
theorem part_0 (h : P.underlying t = some (.int k)) (a b : Value) (w : World) : (part t #[a, b] 0).run P w = .ok a w := by
  simp [part, isAgg, run_underlying h]
theorem part_1 (h : P.underlying t = some (.int k)) (a b : Value) (w : World) : (part t #[a, b] 1).run P w = .ok b w := by
  simp [part, isAgg, run_underlying h]
theorem eqIn_int (h : P.underlying t = some (.int k)) (n : Nat) (a b : Int) (w : World) : (Op.equalIn (n + 1) t (.int k a) (.int k b)).run P w = .ok (decide (a = b)) w := by
  simp [Op.equalIn, run_underlying h]; rfl
theorem checkK_two {kt : TypeId} {f g : Field} {k0 k1 : IntKind} (hs : P.underlying kt = some (.struct #[f, g])) (h0 : f.offset = 0) (h1 : g.offset = 1) (u0 : P.underlying f.type = some (.int k0)) (u1 : P.underlying g.type = some (.int k1)) (em : Bool) (n : Nat) (x y : Int) (w : World) :
    (Instr.checkKey em (n + 2) kt (.agg #[.int k0 x, .int k1 y])).run P w = .ok () w := by
  by_cases n0 : f.name = "_" <;> by_cases n1 : g.name = "_" <;>
    simp [Instr.checkKey, run_underlying hs, run_underlying u0, run_underlying u1, h0, h1, part_0 u0, part_1 u1, n0, n1]
theorem eqK_two {kt : TypeId} {f g : Field} {k0 k1 : IntKind} (hs : P.underlying kt = some (.struct #[f, g])) (h0 : f.offset = 0) (h1 : g.offset = 1) (u0 : P.underlying f.type = some (.int k0)) (u1 : P.underlying g.type = some (.int k1)) (n0 : f.name ≠ "_") (n1 : g.name ≠ "_") (e : P.stoodInHeld kt = false) (n : Nat) (x y x' y' : Int) (w : World) :
    (Op.equalIn (n + 2) kt (.agg #[.int k0 x, .int k1 y]) (.agg #[.int k0 x', .int k1 y'])).run P w = .ok (decide (x = x' ∧ y = y')) w := by
  unfold Op.equalIn
  simp only [Sem.run_bind, run_underlying hs, Result.andThen_ok]
  simp [e, part_0 u0, part_1 u1, eqIn_int u0, eqIn_int u1, h0, h1, n0, n1]
  by_cases h1 : x = x'
  · by_cases h2 : y = y'
    · simp [h1, h2]
    · simp [h1, h2]
  · simp [h1]
/-- a struct of two numbers as a key -/
theorem keyG_two {κ : Type} [DecidableEq κ] {kt : TypeId} {f g : Field} {k0 k1 : IntKind} {ek : κ → Value} {x y : κ → Int} (he : ∀ a, ek a = .agg #[.int k0 (x a), .int k1 (y a)]) (hi : ∀ a b, x a = x b → y a = y b → a = b) (hs : P.underlying kt = some (.struct #[f, g])) (h0 : f.offset = 0) (h1 : g.offset = 1) (u0 : P.underlying f.type = some (.int k0)) (u1 : P.underlying g.type = some (.int k1)) (n0 : f.name ≠ "_") (n1 : g.name ≠ "_") (e : P.stoodInHeld kt = false) : KeyG P kt ek :=
  keyG_ask ⟨_, hs⟩ (fun em a w => by rw [he]; exact checkK_two hs h0 h1 u0 u1 em 9998 _ _ w) (fun _ a b => by rw [he, he]; rfl)
    (fun a b w => by
      rw [he, he]
      refine (eqK_two hs h0 h1 u0 u1 n0 n1 e 9998 _ _ _ _ w).trans ?_
      congr 1
      exact decide_eq_decide.2 ⟨fun h => hi a b h.1 h.2, fun h => by subst h; exact ⟨rfl, rfl⟩⟩)
    fun a w => by rw [he]; simp [Instr.keyThatStays, Instr.sameBits]
end
section
variable {κ ν δ τ : Type} [DecidableEq κ]
theorem mget_some : ∀ {m : List (κ × ν)} {k : κ} {v : ν}, mget m k = some v → ∃ j : Nat, m[j]? = some (k, v)
  | [], _, _, h => by cases h
  | (a, b) :: r, k, v, h => by
    unfold mget at h
    by_cases e : a = k
    · rw [if_pos e] at h
      exact ⟨0, by rw [← e]; simpa using h⟩
    · rw [if_neg e] at h
      obtain ⟨j, hj⟩ := mget_some h
      exact ⟨j + 1, by simpa using hj⟩
theorem mget_no : ∀ {m : List (κ × ν)} {k : κ}, mget m k = none → ∀ p ∈ m, p.1 ≠ k
  | [], _, _, p, hp => by cases hp
  | (a, b) :: r, k, h, p, hp => by
    unfold mget at h
    by_cases e : a = k
    · rw [if_pos e] at h; cases h
    · rw [if_neg e] at h
      rcases List.mem_cons.1 hp with rfl | hp
      · exact e
      · exact mget_no h p hp
theorem getD_some {o : Option ν} {d x : ν} (h : o = some x) : Option.getD o d = x := by rw [h]; rfl
/-- a map's values told -/
def mabs (abs : δ → τ) (m : List (κ × δ)) : List (κ × τ) := m.map fun p => (p.1, abs p.2)
theorem mget_abs (abs : δ → τ) : ∀ (m : List (κ × δ)) (k : κ), mget (mabs abs m) k = (mget m k).map abs
  | [], _ => rfl
  | (a, b) :: r, k => by
    show (if a = k then some (abs b) else mget (mabs abs r) k) = (if a = k then some b else mget r k).map abs
    by_cases e : a = k
    · rw [if_pos e, if_pos e]; rfl
    · rw [if_neg e, if_neg e]; exact mget_abs abs r k
theorem mput_abs (abs : δ → τ) : ∀ (m : List (κ × δ)) (k : κ) (v : δ), mabs abs (mput m k v) = mput (mabs abs m) k (abs v)
  | [], _, _ => rfl
  | (a, b) :: r, k, v => by
    unfold mput
    by_cases e : a = k
    · rw [if_pos e]
      show _ = mput ((a, abs b) :: mabs abs r) k (abs v)
      unfold mput
      rw [if_pos e]; rfl
    · rw [if_neg e]
      show (a, abs b) :: mabs abs (mput r k v) = mput ((a, abs b) :: mabs abs r) k (abs v)
      rw [mput_abs abs r k v]
      conv => rhs; unfold mput
      rw [if_neg e]
end
section
variable {κ ν : Type} [DecidableEq κ] {P : Program} {n : Nat} {F : List (Nat × Value)} {w0 w : World} {D : Nat → Prop} {L : List HP} {ty t kt e : TypeId} {K : Value → World → Prop} {x y q : Operand} {ek : κ → Value} {vv : ν → Value} {m : List (κ × ν)} {g i : Nat} {z : Value} {d0 : ν}
theorem Own.mapAtG (H : Own w0 D w L) (hi : L[i]? = some (mapr g ek vv m)) (K : KeyG P kt ek) (k : κ) : ∃ es clock, w.heap[g]? = some (.map es clock) ∧ es.toList.map (fun e => (e.key, e.val)) = m.map (fun p => (ek p.1, vv p.2)) ∧ (m.map Prod.fst).Nodup ∧
    (((Instr.findKey kt (ek k) es.toList).run P w = .ok none w ∧ (∀ p ∈ m, p.1 ≠ k)) ∨ ∃ j v, (Instr.findKey kt (ek k) es.toList).run P w = .ok (some (j, vv v)) w ∧ m[j]? = some (k, v)) := by
  obtain ⟨h, ⟨hn, es, clock, h1, h2⟩, h3⟩ := H.get hi
  refine ⟨es, clock, h3 g _ h1, h2, hn, ?_⟩
  have hk : es.toList.map (·.key) = (m.map Prod.fst).map ek := by
    have := congrArg (List.map Prod.fst) h2
    simpa [List.map_map, Function.comp_def] using this
  rcases K.find k w es.toList (m.map Prod.fst) hk with ⟨a, b⟩ | ⟨j, e0, a, b, c⟩
  · exact .inl ⟨a, fun p hp he => b (he ▸ List.mem_map.2 ⟨p, hp, rfl⟩)⟩
  · rw [List.getElem?_map] at c
    cases hm : m[j]? with
    | none => rw [hm] at c; cases c
    | some p =>
      rw [hm] at c
      simp only [Option.map_some, Option.some.injEq] at c
      have hj : (es.toList.map fun e => (e.key, e.val))[j]? = some (ek p.1, vv p.2) := by rw [h2, List.getElem?_map, hm]; rfl
      rw [List.getElem?_map, b] at hj
      simp only [Option.map_some, Option.some.injEq, Prod.mk.injEq] at hj
      exact .inr ⟨j, p.2, by rw [a, hj.2], by rw [hm, ← c]⟩
theorem Own.mapNodup (H : Own w0 D w L) (hi : L[i]? = some (mapr g ek vv m)) : (m.map Prod.fst).Nodup := by
  obtain ⟨h, ⟨hn, _⟩, _⟩ := H.get hi
  exact hn
theorem Yl.lookupOkG {k : κ} {o : Option ν} (H : Own w0 D w L) (hi : L[i]? = some (mapr g ek vv m)) (K : KeyG P kt ek) (ht : P.underlying t = some (.map kt e)) (hz : ∀ W, (zeroValue e).run P W = .ok (vv d0) W) (hx : ev F x = some (.map (some g))) (hy : ev F y = some (ek k)) (ho : mget m k = o) :
    Yl P n F w (.lookup t x y true) ty (.tuple #[vv (o.getD d0), .bool o.isSome]) := fun a ha op h1 _ => by
  subst ho
  obtain ⟨es, clock, hb, _, hn, hf⟩ := H.mapAtG hi K k
  unfold execOp
  rw [h1]
  simp only [ha.eval hx, ha.eval hy]
  rcases hf with ⟨hf, hno⟩ | ⟨j, v, hf, hj⟩
  · rw [mget_none hno]
    simp [Instr.lookup, run_underlying ht, Go.MapKept.run_getObj_map hb, K.check, hf, hz w, Result.andThen]
  · rw [mget_at hn hj]
    simp [Instr.lookup, run_underlying ht, Go.MapKept.run_getObj_map hb, K.check, hf, Result.andThen]
theorem Do.mapUpdateG {k : κ} {v : ν} (H : Own w0 D w (mapr g ek vv m :: L)) (K' : KeyG P kt ek) (ht : P.underlying t = some (.map kt e)) (hx : ev F x = some (.map (some g))) (hy : ev F y = some (ek k)) (hq : ev F q = some (vv v))
    (h : ∀ w', Own w0 D w' (mapr g ek vv (mput m k v) :: L) → K undef w') : Do P n F w (.mapUpdate t x y q) ty K := fun a ha op h1 h2 next Q hnx => by
  obtain ⟨es, clock, hb, he, hn, hf⟩ := H.mapAtG (i := 0) rfl K' k
  unfold execOp
  rw [h1]
  simp only [ha.eval hx, ha.eval hy, ha.eval hq]
  rcases hf with ⟨hf, hno⟩ | ⟨j, u, hf, hj⟩
  · have hrun : (Instr.mapUpdate t (.map (some g)) (ek k) (vv v)).run P w = .ok () { w with heap := w.heap.setIfInBounds g (.map (es.push { key := ek k, val := vv v, born := clock }) (clock + 1)) } := by
      simp [Instr.mapUpdate, run_underlying ht, Go.MapKept.run_getObj_map hb, K'.check, hf, Go.MapKept.run_setObj_map _ hb, Result.andThen]
    have H' := H.mapSet (m' := mput m k v) (es' := es.push { key := ek k, val := vv v, born := clock }) (clock' := clock + 1) (mput_keys m k v hn).1 (by rw [mput_new hno, Array.toList_push, List.map_append, List.map_append, he]; rfl)
    simp only [Sem.run_bind, Sem.run_pure, Result.andThen_ok, hrun]
    exact hnx _ _ (h _ H')
  · have hj' : (es.toList.map fun e => (e.key, e.val))[j]? = some (ek k, vv u) := by rw [he, List.getElem?_map, hj]; rfl
    rw [List.getElem?_map, Array.getElem?_toList] at hj'
    cases hej : es[j]? with
    | none => rw [hej] at hj'; cases hj'
    | some e0 =>
      rw [hej] at hj'
      simp only [Option.map_some, Option.some.injEq, Prod.mk.injEq] at hj'
      have hks : (Instr.keyThatStays (((es[j]?).map (·.key)).getD (ek k)) (ek k)).run P w = .ok (ek k) w := by
        rw [hej]
        simp only [Option.map_some, Option.getD_some, hj'.1]
        exact K'.stay k w
      have hrun : (Instr.mapUpdate t (.map (some g)) (ek k) (vv v)).run P w = .ok () { w with heap := w.heap.setIfInBounds g (.map (es.modify j fun e => { e with key := ek k, val := vv v }) clock) } := by
        simp only [Instr.mapUpdate, Sem.run_bind, run_underlying ht, Go.MapKept.run_getObj_map hb, K'.check, hf, Result.andThen_ok, hks, Go.MapKept.run_setObj_map _ hb]
      have hset : (es.modify j fun e => { e with key := ek k, val := vv v }).toList.map (fun e => (e.key, e.val)) = (mput m k v).map fun p => (ek p.1, vv p.2) := by
        rw [mput_at hn hj]
        apply List.ext_getElem?
        intro l
        have hel : (es.toList.map fun e => (e.key, e.val))[l]? = (m.map fun p => (ek p.1, vv p.2))[l]? := by rw [he]
        simp only [List.getElem?_map, Array.getElem?_toList, Array.getElem?_modify, List.getElem?_set] at hel ⊢
        by_cases hjl : j = l
        · subst hjl
          have hlt : j < m.length := (List.getElem?_eq_some_iff.1 hj).1
          simp [hej, hlt]
        · simp only [hjl, if_false]
          exact hel
      have H' := H.mapSet (m' := mput m k v) (clock' := clock) (mput_keys m k v hn).1 hset
      simp only [Sem.run_bind, Sem.run_pure, Result.andThen_ok, hrun]
      exact hnx _ _ (h _ H')
theorem Do.clearMap (H : Own w0 D w (mapr g ek vv m :: L)) (ht : P.underlying t = some (.map kt e)) (hx : ev F x = some (.map (some g))) (h : ∀ w', Own w0 D w' (mapr g ek vv ([] : List (κ × ν)) :: L) → K (.tuple #[]) w') :
    Do P n F w (.call ⟨.builtin .clear, [x].toArray, [t].toArray⟩) ty K := fun a ha o h1 h2 next Q hn => by
  obtain ⟨h0, ⟨hnd, es, clock, q1, q2⟩, hs⟩ := H.get (i := 0) rfl
  have hb := hs g _ q1
  have hrun : (Builtin.clear_ #[t] o.type #[.map (some g)]).run P w = .ok (.tuple #[]) { w with heap := w.heap.setIfInBounds g (.map #[] clock) } := by
    simp [Builtin.clear_, run_underlying ht, Go.MapKept.run_getObj_map hb, Go.MapKept.run_setObj_map _ hb, Result.andThen]
  have H' := H.mapSet (m' := []) (es' := #[]) (clock' := clock) (by simp) (by simp)
  unfold execOp
  rw [h1]
  simp only [resolve, invoke, builtin, Sem.run_bind, Sem.run_pure, Result.andThen_ok, List.map_toArray, List.map_cons, List.map_nil, ha.eval hx, hrun]
  exact hn _ _ (h _ H')
end
section
variable {κ δ τ : Type} [DecidableEq κ] {abs : δ → τ} {m : List (κ × δ)} {mab : List (κ × τ)} {k : κ}
/-- a map whose values hold slices, and what is told of it: side by side -/
theorem mab_get (hab : mabs abs m = mab) (k : κ) : mget mab k = (mget m k).map abs := hab ▸ mget_abs abs m k
theorem mab_some (hab : mabs abs m = mab) (h : Option.isSome (mget mab k) = true) : ∃ (x : δ) (j : Nat), m[j]? = some (k, x) ∧ mget m k = some x ∧ mget mab k = some (abs x) := by
  rw [mab_get hab] at h
  cases e : mget m k with
  | none => rw [e] at h; cases h
  | some x =>
    obtain ⟨j, hj⟩ := mget_some e
    exact ⟨x, j, hj, rfl, by rw [mab_get hab, e]; rfl⟩
theorem mab_none (hab : mabs abs m = mab) (h : ¬ Option.isSome (mget mab k) = true) : mget m k = none ∧ mget mab k = none := by
  rw [mab_get hab] at h ⊢
  cases e : mget m k with
  | none => exact ⟨rfl, rfl⟩
  | some x => rw [e] at h; exact absurd rfl h
theorem mput_set {b v : δ} {j : Nat} (hn : (m.map Prod.fst).Nodup) (hj : m[j]? = some (k, b)) : mput m k v = m.set j (k, v) := mput_at hn hj
theorem mput_end {v : δ} (h : mget m k = none) : mput m k v = m ++ [(k, v)] := mput_new (mget_no h)
theorem mab_set {b v : δ} {j : Nat} (hab : mabs abs m = mab) (hn : (m.map Prod.fst).Nodup) (hj : m[j]? = some (k, b)) : mabs abs (m.set j (k, v)) = mput mab k (abs v) := by
  rw [← mput_at (v := v) hn hj, mput_abs, hab]
theorem mab_end {v : δ} (hab : mabs abs m = mab) (h : mget m k = none) : mabs abs (m ++ [(k, v)]) = mput mab k (abs v) := by
  rw [← mput_end h, mput_abs, hab]
theorem mown_end {own : δ → List HP} {v : δ} : List.flatMap (fun p : κ × δ => own p.2) m ++ own v = List.flatMap (fun p : κ × δ => own p.2) (m ++ [(k, v)]) := by
  rw [List.flatMap_append]
  simp
end
end Go.Proofs.Ytcjjblkgbfaapaa
