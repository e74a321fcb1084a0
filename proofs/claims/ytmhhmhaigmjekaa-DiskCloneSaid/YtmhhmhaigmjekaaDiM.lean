/-
  Maps from numbers to sectors as sorted lists; such a map as an owned thing: lookups, updates, deletes, clear, ranges as steps.
  Conditions: none beyond each law's own.
-/
import Derived.Test.YtmhhmhaigmjekaaKz
import Derived.Maps.RangeRun
namespace Go.Proofs.Ytmhhmhaigmjekaa
set_option linter.unusedVariables false
set_option linter.unusedSimpArgs false
set_option linter.unusedSectionVars false
open Go.RowKit

abbrev Ent := Int × List UInt8
def Srt (m : List Ent) : Prop := m.Pairwise fun p q => p.1 < q.1
def sput : List Ent → Int → List UInt8 → List Ent
  | [], k, v => [(k, v)]
  | (a, b) :: r, k, v => if k < a then (k, v) :: (a, b) :: r else if k = a then (k, v) :: r else (a, b) :: sput r k v
def sdel (m : List Ent) (k : Int) : List Ent := m.filter fun p => decide (p.1 ≠ k)
theorem sput_mem : ∀ {m : List Ent} {k : Int} {v : List UInt8} {p : Ent}, Srt m → (p ∈ sput m k v ↔ p = (k, v) ∨ (p ∈ m ∧ p.1 ≠ k))
  | [], k, v, p, _ => by simp [sput]
  | (a, b) :: r, k, v, p, h => by
    obtain ⟨h1, h2⟩ := List.pairwise_cons.1 h
    unfold sput
    by_cases hk : k < a
    · rw [if_pos hk]
      simp only [List.mem_cons]
      constructor
      · rintro (h | h | h)
        · exact .inl h
        · exact .inr ⟨.inl h, by rw [h]; simp only; omega⟩
        · exact .inr ⟨.inr h, by have := h1 p h; simp only at this; omega⟩
      · rintro (h | ⟨h, _⟩)
        · exact .inl h
        · exact .inr h
    · rw [if_neg hk]
      by_cases he : k = a
      · rw [if_pos he]
        simp only [List.mem_cons]
        constructor
        · rintro (h | h)
          · exact .inl h
          · exact .inr ⟨.inr h, by have := h1 p h; simp only at this; omega⟩
        · rintro (h | ⟨h | h, hn⟩)
          · exact .inl h
          · exact absurd (by rw [h]; exact he.symm) hn
          · exact .inr h
      · rw [if_neg he]
        simp only [List.mem_cons, sput_mem h2]
        constructor
        · rintro (h | h | ⟨h, hn⟩)
          · exact .inr ⟨.inl h, by rw [h]; simp only; omega⟩
          · exact .inl h
          · exact .inr ⟨.inr h, hn⟩
        · rintro (h | ⟨h | h, hn⟩)
          · exact .inr (.inl h)
          · exact .inl h
          · exact .inr (.inr ⟨h, hn⟩)
theorem sput_srt : ∀ {m : List Ent} {k : Int} {v : List UInt8}, Srt m → Srt (sput m k v)
  | [], k, v, _ => by simp [sput, Srt]
  | (a, b) :: r, k, v, h => by
    obtain ⟨h1, h2⟩ := List.pairwise_cons.1 h
    unfold sput
    by_cases hk : k < a
    · rw [if_pos hk]
      refine List.pairwise_cons.2 ⟨fun q hq => ?_, h⟩
      rcases List.mem_cons.1 hq with rfl | hq
      · exact hk
      · exact Int.lt_trans hk (h1 q hq)
    · rw [if_neg hk]
      by_cases he : k = a
      · rw [if_pos he]
        exact List.pairwise_cons.2 ⟨fun q hq => by rw [he]; exact h1 q hq, h2⟩
      · rw [if_neg he]
        refine List.pairwise_cons.2 ⟨fun q hq => ?_, sput_srt h2⟩
        rcases (sput_mem h2).1 hq with rfl | ⟨hq, _⟩
        · show a < k; omega
        · exact h1 q hq
theorem sdel_mem {m : List Ent} {k : Int} {p : Ent} : p ∈ sdel m k ↔ p ∈ m ∧ p.1 ≠ k := by simp [sdel]
theorem sdel_srt {m : List Ent} {k : Int} (h : Srt m) : Srt (sdel m k) := h.filter _
theorem srt_one : ∀ {m : List Ent}, Srt m → ∀ {p q : Ent}, p ∈ m → q ∈ m → p.1 = q.1 → p = q
  | [], _, p, q, hp, _, _ => by cases hp
  | x :: r, h, p, q, hp, hq, e => by
    obtain ⟨h1, h2⟩ := List.pairwise_cons.1 h
    rcases List.mem_cons.1 hp with e1 | hp' <;> rcases List.mem_cons.1 hq with e2 | hq'
    · exact e1.trans e2.symm
    · have := h1 _ hq'; rw [e1] at e; omega
    · have := h1 _ hp'; rw [e2] at e; omega
    · exact srt_one h2 hp' hq' e
theorem mget_mem : ∀ {m : List Ent} {k : Int} {v : List UInt8}, mget m k = some v → (k, v) ∈ m
  | [], k, v, h => by cases h
  | (a, b) :: r, k, v, h => by
    unfold mget at h
    by_cases e : a = k
    · rw [if_pos e] at h
      injection h with h
      rw [← e, ← h]; exact .head _
    · rw [if_neg e] at h
      exact .tail _ (mget_mem h)
theorem srt_get {m : List Ent} (h : Srt m) {k : Int} {v : List UInt8} (hm : (k, v) ∈ m) : mget m k = some v := by
  cases e : mget m k with
  | none =>
    exact absurd e (by
      intro e
      have : ∀ {m : List Ent}, mget m k = none → ∀ p ∈ m, p.1 ≠ k := by
        intro m
        induction m with
        | nil => intro _ p hp; cases hp
        | cons x r ih =>
          intro e p hp
          obtain ⟨a, b⟩ := x
          unfold mget at e
          by_cases hk : a = k
          · rw [if_pos hk] at e; cases e
          · rw [if_neg hk] at e
            rcases List.mem_cons.1 hp with rfl | hp
            · exact hk
            · exact ih e p hp
      exact this e _ hm rfl)
  | some u => exact congrArg some (by have := srt_one h (mget_mem e) hm rfl; exact (Prod.mk.inj this).2)
theorem srt_ext : ∀ {a b : List Ent}, Srt a → Srt b → (∀ p, p ∈ a ↔ p ∈ b) → a = b
  | [], [], _, _, _ => rfl
  | [], y :: b, _, _, h => by have := (h y).2 (.head _); cases this
  | x :: a, [], _, _, h => by have := (h x).1 (.head _); cases this
  | x :: a, y :: b, ha, hb, h => by
    obtain ⟨a1, a2⟩ := List.pairwise_cons.1 ha
    obtain ⟨b1, b2⟩ := List.pairwise_cons.1 hb
    have e : x = y := by
      rcases List.mem_cons.1 ((h x).1 (.head _)) with e | hx
      · exact e
      · rcases List.mem_cons.1 ((h y).2 (.head _)) with e | hy
        · exact e.symm
        · have := b1 x hx; have := a1 y hy; omega
    subst e
    refine congrArg (x :: ·) (srt_ext a2 b2 fun p => ⟨fun hp => ?_, fun hp => ?_⟩)
    · rcases List.mem_cons.1 ((h p).1 (.tail _ hp)) with e | hp'
      · subst e; have := a1 p hp; omega
      · exact hp'
    · rcases List.mem_cons.1 ((h p).2 (.tail _ hp)) with e | hp'
      · subst e; have := b1 p hp; omega
      · exact hp'
theorem sput_lenN : ∀ {m : List Ent} {k : Int} {v : List UInt8}, (∀ p ∈ m, p.1 ≠ k) → (sput m k v).length = m.length + 1
  | [], k, v, _ => rfl
  | (a, b) :: r, k, v, h => by
    unfold sput
    by_cases hk : k < a
    · rw [if_pos hk]; rfl
    · rw [if_neg hk, if_neg (fun e => h (a, b) (.head _) e.symm)]
      simp only [List.length_cons, sput_lenN (fun p hp => h p (.tail _ hp))]
theorem sput_lenS : ∀ {m : List Ent} {k : Int} {v u : List UInt8}, Srt m → (k, u) ∈ m → (sput m k v).length = m.length
  | [], k, v, u, _, h => by cases h
  | (a, b) :: r, k, v, u, h, hm => by
    obtain ⟨h1, h2⟩ := List.pairwise_cons.1 h
    unfold sput
    rcases List.mem_cons.1 hm with e | hm
    · injection e with e _
      rw [if_neg (by omega), if_pos e]; rfl
    · have := h1 _ hm
      simp only at this
      rw [if_neg (by omega), if_neg (by omega)]
      simp only [List.length_cons, sput_lenS h2 hm]
theorem sdel_lenN {m : List Ent} {k : Int} (h : ∀ p ∈ m, p.1 ≠ k) : sdel m k = m := List.filter_eq_self.2 fun p hp => decide_eq_true (h p hp)
theorem sdel_lenS : ∀ {m : List Ent} {k : Int} {u : List UInt8}, Srt m → (k, u) ∈ m → (sdel m k).length + 1 = m.length
  | [], k, u, _, h => by cases h
  | (a, b) :: r, k, u, h, hm => by
    obtain ⟨h1, h2⟩ := List.pairwise_cons.1 h
    rcases List.mem_cons.1 hm with e | hm
    · injection e with e _
      subst e
      have : sdel ((k, b) :: r) k = r := by
        show List.filter _ _ = r
        rw [List.filter_cons_of_neg (by simp)]
        exact sdel_lenN fun p hp => by have := h1 p hp; simp only at this; omega
      rw [this]; rfl
    · have := h1 _ hm
      simp only at this
      have e : sdel ((a, b) :: r) k = (a, b) :: sdel r k := List.filter_cons_of_pos (decide_eq_true (by simp only; omega))
      rw [e]
      simp only [List.length_cons, sdel_lenS h2 hm]
theorem srt_len : ∀ {m : List Ent} {lo : Int} {n : Nat}, Srt m → (∀ p ∈ m, lo ≤ p.1 ∧ p.1 < lo + n) → m.length ≤ n
  | [], _, n, _, _ => Nat.zero_le _
  | x :: r, lo, n, h, hb => by
    obtain ⟨h1, h2⟩ := List.pairwise_cons.1 h
    have hx := hb x (.head _)
    have := srt_len (m := r) (lo := x.1 + 1) (n := (lo + n - x.1 - 1).toNat) h2 fun p hp => by
      have := h1 p hp; have := hb p (.tail _ hp); omega
    simp only [List.length_cons]; omega

/-! ### the thing -/
def vS (l : List UInt8) : Value := .agg (List.flatMap eB l).toArray
def okS (p : Ent) : Prop := 0 ≤ p.1 ∧ p.1 < 4096 ∧ p.2.length = 64
def objE (g : Nat) (o : Obj) : HP := fun h => h g = some o
structure MQ (es : Array MapEntry) (clock : Nat) (m : List Ent) : Prop where
  srt : Srt m
  ok : ∀ p ∈ m, okS p
  st : Go.MapKept.Stamped es clock
  len : es.size = m.length
  to_ : ∀ e ∈ es.toList, ∃ p ∈ m, e.key = kI p.1 ∧ e.val = vS p.2
  from_ : ∀ p ∈ m, ∃ e ∈ es.toList, e.key = kI p.1 ∧ e.val = vS p.2
/-- A map in a block of its own. -/
def mapq (g : Nat) (m : List Ent) : HP := exS (fun x : Array MapEntry × Nat => MQ x.1 x.2 m) (fun x => [objE g (.map x.1 x.2)])
theorem kI_inj {a b : Int} (h : kI a = kI b) : a = b := by injection h
section
variable {P : Program} {n : Nat} {F : List (Nat × Value)} {w0 w : World} {D : Nat → Prop} {L : List HP} {ty t kt e : TypeId} {K : Value → World → Prop} {x y q : Operand} {m : List Ent} {g i r : Nat}
theorem Own.objAt {o : Obj} (H : Own w0 D w L) (hi : L[i]? = some (objE g o)) : w.heap[g]? = some o := by
  obtain ⟨h, h1, h2⟩ := H.get hi
  exact h2 g _ h1
theorem Own.objSet {o o' : Obj} (H : Own w0 D w (objE g o :: L)) : Own w0 D { w with heap := w.heap.setIfInBounds g o' } (objE g o' :: L) := by
  refine H.upd rfl rfl rfl (by simp) fun h1 r1 hk => ?_
  have hb := hk g _ r1
  obtain ⟨s1, s2⟩ := Go.MapKept.heap_set (o' := o') hb
  refine ⟨fun k => if k = g then some o' else none, (by show (if g = g then some o' else none) = some o'; rw [if_pos rfl]), fun k o hk' => ?_, fun k hk1 hk2 => ?_⟩
  · by_cases e : k = g
    · subst e
      simp only [if_true, Option.some.injEq] at hk'
      subst hk'
      exact ⟨s1, .inl (by rw [show h1 k = some _ from r1]; exact Option.some_ne_none _)⟩
    · simp only [e, if_false] at hk'; cases hk'
  · exact s2 k (fun e => by subst e; rw [show h1 k = some _ from r1] at hk2; cases hk2)
theorem Own.tail {R : HP} (H : Own w0 D w (R :: L)) : Own w0 D w L := H.to fun h hs => by
  obtain ⟨h1, h2, _, a, _, c, _⟩ := hs.uncons
  exact a.mono c
theorem Own.mqOpen (H : Own w0 D w (mapq g m :: L)) : ∃ es clock, MQ es clock m ∧ Own w0 D w (objE g (.map es clock) :: L) := by
  obtain ⟨⟨es, clock⟩, h1, h2⟩ := Own.exOpen H
  exact ⟨es, clock, h1, h2⟩
theorem Own.mqFold {es : Array MapEntry} {clock : Nat} (h : MQ es clock m) (H : Own w0 D w (objE g (.map es clock) :: L)) : Own w0 D w (mapq g m :: L) := Own.exFold (es, clock) h H
theorem Own.mqGet (H : Own w0 D w L) (hi : L[i]? = some (mapq g m)) : ∃ es clock, MQ es clock m ∧ w.heap[g]? = some (.map es clock) := by
  obtain ⟨h, ⟨⟨es, clock⟩, h1, hs⟩, h2⟩ := H.get hi
  obtain ⟨f, f1, f2, _⟩ := hs
  exact ⟨es, clock, h1, h2 g _ (f2 0 g _ (f1 0 _ rfl))⟩
theorem isKI (a : Int) : Go.MapKept.IsKey (.int .i64) (kI a) := by simp [Go.MapKept.IsKey]
theorem MQ.find {es : Array MapEntry} {clock : Nat} (h : MQ es clock m) (k : Int) : (Instr.findNow (.int .i64) (kI k) es.toList 0 = some none ∧ (∀ x ∈ es.toList, x.key ≠ kI k) ∧ ∀ p ∈ m, p.1 ≠ k) ∨ ∃ j e0 v, Instr.findNow (.int .i64) (kI k) es.toList 0 = some (some (j, vS v)) ∧ es[j]? = some e0 ∧ e0.key = kI k ∧ e0.val = vS v ∧ (k, v) ∈ m := by
  rcases Go.MapKept.findNow_spec (isKI k) es.toList 0 (fun x hx => by obtain ⟨p, _, e, _⟩ := h.to_ x hx; rw [e]; exact isKI _) with ⟨a, b⟩ | ⟨j, e0, a, b, c⟩
  · refine .inl ⟨a, b, fun p hp e => ?_⟩
    obtain ⟨x, hx, hk, _⟩ := h.from_ p hp
    exact b x hx (hk.trans (by rw [e]))
  · rw [Nat.zero_add] at a
    obtain ⟨p, hp, e1, e2⟩ := h.to_ e0 (List.mem_of_getElem? b)
    have hk := kI_inj (e1.symm.trans c)
    exact .inr ⟨j, e0, p.2, by rw [a, e2], by rw [← Array.getElem?_toList]; exact b, c, e2, by rw [← hk]; exact hp⟩
theorem nodup_idx {α β : Type} {f : α → β} {l : List α} (h : (l.map f).Nodup) {i j : Nat} {a b : α} (hi : l[i]? = some a) (hj : l[j]? = some b) (e : f a = f b) : i = j := by
  have hlt : i < (l.map f).length := by rw [List.length_map]; exact (List.getElem?_eq_some_iff.1 hi).1
  refine (List.getElem?_inj hlt h).1 ?_
  rw [List.getElem?_map, List.getElem?_map, hi, hj, Option.map_some, Option.map_some, e]
theorem MQ.putN {es : Array MapEntry} {clock : Nat} (h : MQ es clock m) {k : Int} {v : List UInt8} (h1 : ∀ x ∈ es.toList, x.key ≠ kI k) (h2 : ∀ p ∈ m, p.1 ≠ k) (ho : okS (k, v)) : MQ (es.push { key := kI k, val := vS v, born := clock }) (clock + 1) (sput m k v) := by
  refine ⟨?_, ?_, ?_, ?_, ?_, ?_⟩
  · exact sput_srt h.srt
  · intro p hp
    rcases (sput_mem h.srt).1 hp with rfl | ⟨hp, _⟩
    · exact ho
    · exact h.ok p hp
  · exact Go.MapKept.stamped_push h.st h1
  · rw [sput_lenN h2, Array.size_push, h.len]
  · intro e he
    rw [Array.toList_push] at he
    rcases List.mem_append.1 he with he | he
    · obtain ⟨p, hp, e1, e2⟩ := h.to_ e he
      exact ⟨p, (sput_mem h.srt).2 (.inr ⟨hp, h2 p hp⟩), e1, e2⟩
    · rw [List.mem_singleton] at he
      exact ⟨(k, v), (sput_mem h.srt).2 (.inl rfl), by rw [he], by rw [he]⟩
  · intro p hp
    rw [Array.toList_push]
    rcases (sput_mem h.srt).1 hp with rfl | ⟨hp, _⟩
    · exact ⟨_, List.mem_append_right _ (List.mem_singleton.2 rfl), rfl, rfl⟩
    · obtain ⟨e, he, e1, e2⟩ := h.from_ p hp
      exact ⟨e, List.mem_append_left _ he, e1, e2⟩
theorem MQ.putS {es : Array MapEntry} {clock j : Nat} (h : MQ es clock m) {k : Int} {v u : List UInt8} {e0 : MapEntry} (hj : es[j]? = some e0) (hk : e0.key = kI k) (hm : (k, u) ∈ m) (ho : okS (k, v)) : MQ (es.modify j fun e => { e with key := kI k, val := vS v }) clock (sput m k v) := by
  have hj' : es.toList[j]? = some e0 := by rw [Array.getElem?_toList]; exact hj
  have hat : ∀ l e, (es.modify j fun e => { e with key := kI k, val := vS v }).toList[l]? = some e ↔ (l = j ∧ e = { e0 with key := kI k, val := vS v }) ∨ (l ≠ j ∧ es.toList[l]? = some e) := fun l e => by
    rw [Array.getElem?_toList, Array.getElem?_modify]
    by_cases hl : j = l
    · subst hl
      rw [if_pos rfl, hj]
      simp only [Option.map_some, Option.some.injEq, ne_eq, not_true_eq_false, false_and, or_false, true_and]
      exact eq_comm
    · rw [if_neg hl]
      simp only [Array.getElem?_toList, ne_eq, Ne.symm hl, false_and, false_or, not_false_eq_true, true_and]
  refine ⟨sput_srt h.srt, fun p hp => ?_, Go.MapKept.stamped_modify h.st _ _ (fun _ _ => rfl) (fun e he h' => ?_), ?_, fun e he => ?_, fun p hp => ?_⟩
  · rcases (sput_mem h.srt).1 hp with rfl | ⟨hp, _⟩
    · exact ho
    · exact h.ok p hp
  · rw [hj] at h'; injection h' with h'; rw [← h', hk]
  · rw [sput_lenS h.srt hm, Array.size_modify, h.len]
  · obtain ⟨l, hl⟩ := List.mem_iff_getElem?.1 he
    rcases (hat l e).1 hl with ⟨_, rfl⟩ | ⟨hne, hl⟩
    · exact ⟨(k, v), (sput_mem h.srt).2 (.inl rfl), rfl, rfl⟩
    · obtain ⟨p, hp, e1, e2⟩ := h.to_ e (List.mem_of_getElem? hl)
      refine ⟨p, (sput_mem h.srt).2 (.inr ⟨hp, fun e3 => hne (nodup_idx h.st.2.2 hl hj' ?_)⟩), e1, e2⟩
      rw [e1, hk, e3]
  · rcases (sput_mem h.srt).1 hp with rfl | ⟨hp, hn⟩
    · exact ⟨_, List.mem_of_getElem? ((hat j _).2 (.inl ⟨rfl, rfl⟩)), rfl, rfl⟩
    · obtain ⟨e, he, e1, e2⟩ := h.from_ p hp
      obtain ⟨l, hl⟩ := List.mem_iff_getElem?.1 he
      refine ⟨e, List.mem_of_getElem? ((hat l e).2 (.inr ⟨fun e3 => hn ?_, hl⟩)), e1, e2⟩
      subst e3
      rw [hj'] at hl; injection hl with hl
      exact kI_inj (e1.symm.trans (by rw [← hl, hk]))
theorem MQ.delS {es : Array MapEntry} {clock j : Nat} (h : MQ es clock m) {k : Int} {u : List UInt8} {e0 : MapEntry} (hj : es[j]? = some e0) (hk : e0.key = kI k) (hm : (k, u) ∈ m) : MQ (es.eraseIdxIfInBounds j) clock (sdel m k) := by
  have hj' : es.toList[j]? = some e0 := by rw [Array.getElem?_toList]; exact hj
  have hlt : j < es.size := (Array.getElem?_eq_some_iff.1 hj).1
  have hto : (es.eraseIdxIfInBounds j).toList = es.toList.eraseIdx j := by
    unfold Array.eraseIdxIfInBounds
    rw [dif_pos hlt, Array.toList_eraseIdx]
  refine ⟨sdel_srt h.srt, fun p hp => h.ok p (sdel_mem.1 hp).1, Go.MapKept.stamped_erase h.st _, ?_, fun e he => ?_, fun p hp => ?_⟩
  · have h1 := sdel_lenS h.srt hm
    have h2 : (es.eraseIdxIfInBounds j).size = (es.toList.eraseIdx j).length := by rw [← hto, Array.length_toList]
    rw [h2, List.length_eraseIdx, Array.length_toList, if_pos hlt, h.len]; omega
  · rw [hto] at he
    obtain ⟨l, hne, hl⟩ := List.mem_eraseIdx_iff_getElem?.1 he
    obtain ⟨p, hp, e1, e2⟩ := h.to_ e (List.mem_of_getElem? hl)
    refine ⟨p, sdel_mem.2 ⟨hp, fun e3 => hne (nodup_idx h.st.2.2 hl hj' ?_)⟩, e1, e2⟩
    rw [e1, hk, e3]
  · obtain ⟨hp, hn⟩ := sdel_mem.1 hp
    obtain ⟨e, he, e1, e2⟩ := h.from_ p hp
    obtain ⟨l, hl⟩ := List.mem_iff_getElem?.1 he
    rw [hto]
    refine ⟨e, List.mem_eraseIdx_iff_getElem?.2 ⟨l, fun e3 => hn ?_, hl⟩, e1, e2⟩
    subst e3
    rw [hj'] at hl; injection hl with hl
    exact kI_inj (e1.symm.trans (by rw [← hl, hk]))
/-! ### steps -/
theorem Yl.lookupQ {k : Int} {o : Option (List UInt8)} {d0 : List UInt8} {b : Bool} (H : Own w0 D w L) (hi : L[i]? = some (mapq g m)) (hd : P.underlying kt = some (.int .i64)) (ht : P.underlying t = some (.map kt e)) (hz : ∀ W, (zeroValue e).run P W = .ok (vS d0) W) (hx : ev F x = some (.map (some g))) (hy : ev F y = some (kI k)) (ho : mget m k = o) :
    Yl P n F w (.lookup t x y b) ty (if b then .tuple #[vS (o.getD d0), .bool o.isSome] else vS (o.getD d0)) := fun a ha op h1 _ => by
  subst ho
  obtain ⟨es, clock, h, hb⟩ := H.mqGet hi
  unfold execOp
  rw [h1]
  simp only [ha.eval hx, ha.eval hy]
  rcases h.find k with ⟨hf, _, hno⟩ | ⟨j, e0, v, hf, _, _, _, hm⟩
  · rw [mget_none hno]
    cases b <;> simp [Instr.lookup, run_underlying ht, Go.MapKept.run_getObj_map hb, Go.MapKept.run_checkKey hd (isKI k), Go.MapKept.run_findKey hd hf, hz w, Result.andThen]
  · rw [srt_get h.srt hm]
    cases b <;> simp [Instr.lookup, run_underlying ht, Go.MapKept.run_getObj_map hb, Go.MapKept.run_checkKey hd (isKI k), Go.MapKept.run_findKey hd hf, Result.andThen]
theorem Yl.lookupOkQ {k : Int} {o : Option (List UInt8)} {d0 : List UInt8} (H : Own w0 D w L) (hi : L[i]? = some (mapq g m)) (hd : P.underlying kt = some (.int .i64)) (ht : P.underlying t = some (.map kt e)) (hz : ∀ W, (zeroValue e).run P W = .ok (vS d0) W) (hx : ev F x = some (.map (some g))) (hy : ev F y = some (kI k)) (ho : mget m k = o) :
    Yl P n F w (.lookup t x y true) ty (.tuple #[vS (o.getD d0), .bool o.isSome]) := Yl.lookupQ (b := true) H hi hd ht hz hx hy ho
theorem Yl.lookup1Q {k : Int} {o : Option (List UInt8)} {d0 : List UInt8} (H : Own w0 D w L) (hi : L[i]? = some (mapq g m)) (hd : P.underlying kt = some (.int .i64)) (ht : P.underlying t = some (.map kt e)) (hz : ∀ W, (zeroValue e).run P W = .ok (vS d0) W) (hx : ev F x = some (.map (some g))) (hy : ev F y = some (kI k)) (ho : mget m k = o) :
    Yl P n F w (.lookup t x y false) ty (vS (o.getD d0)) := Yl.lookupQ (b := false) H hi hd ht hz hx hy ho
theorem Own.mqLen {k : Int} {o : Option (List UInt8)} {d0 : List UInt8} (H : Own w0 D w L) (hi : L[i]? = some (mapq g m)) (ho : mget m k = o) (h0 : d0.length = 64) : List.length (o.getD d0) = 64 := by
  subst ho
  obtain ⟨es, clock, h, _⟩ := H.mqGet hi
  cases e : mget m k with
  | none => exact h0
  | some v => exact (h.ok _ (mget_mem e)).2.2
theorem Own.mqOk (H : Own w0 D w L) (hi : L[i]? = some (mapq g m)) : Srt m ∧ ∀ p ∈ m, okS p := by
  obtain ⟨es, clock, h, _⟩ := H.mqGet hi
  exact ⟨h.srt, h.ok⟩
theorem Do.mapUpdateQ {k : Int} {v : List UInt8} (H : Own w0 D w (mapq g m :: L)) (hd : P.underlying kt = some (.int .i64)) (ht : P.underlying t = some (.map kt e)) (hx : ev F x = some (.map (some g))) (hy : ev F y = some (kI k)) (hq : ev F q = some (vS v)) (ho : okS (k, v))
    (h : ∀ w', Own w0 D w' (mapq g (sput m k v) :: L) → K undef w') : Do P n F w (.mapUpdate t x y q) ty K := fun a ha o h1 h2 next Q hnx => by
  obtain ⟨es, clock, hm, H1⟩ := H.mqOpen
  have hb := H1.objAt (i := 0) rfl
  unfold execOp
  rw [h1]
  simp only [ha.eval hx, ha.eval hy, ha.eval hq]
  rcases hm.find k with ⟨hf, hn, hno⟩ | ⟨j, e0, u, hf, hj, hk, hv, hkm⟩
  · have hrun : (Instr.mapUpdate t (.map (some g)) (kI k) (vS v)).run P w = .ok () { w with heap := w.heap.setIfInBounds g (.map (es.push { key := kI k, val := vS v, born := clock }) (clock + 1)) } := by
      simp [Instr.mapUpdate, run_underlying ht, Go.MapKept.run_getObj_map hb, Go.MapKept.run_checkKey hd (isKI k), Go.MapKept.run_findKey hd hf, Go.MapKept.run_setObj_map _ hb, Result.andThen]
    simp only [Sem.run_bind, Sem.run_pure, Result.andThen_ok, hrun]
    exact hnx _ _ (h _ (Own.mqFold (hm.putN hn hno ho) H1.objSet))
  · have hks : (Instr.keyThatStays (((es[j]?).map (·.key)).getD (kI k)) (kI k)).run P w = .ok (kI k) w := by
      unfold Instr.keyThatStays
      rw [hj]
      have : Instr.sameBits 10000 (kI k) (kI k) = true := by simp [Instr.sameBits]
      simp only [Option.map_some, Option.getD_some, hk, this, if_true]
      rfl
    have hrun : (Instr.mapUpdate t (.map (some g)) (kI k) (vS v)).run P w = .ok () { w with heap := w.heap.setIfInBounds g (.map (es.modify j fun e => { e with key := kI k, val := vS v }) clock) } := by
      simp only [Instr.mapUpdate, Sem.run_bind, run_underlying ht, Go.MapKept.run_getObj_map hb, Go.MapKept.run_checkKey hd (isKI k), Go.MapKept.run_findKey hd hf, Result.andThen_ok, hks, Go.MapKept.run_setObj_map _ hb]
    simp only [Sem.run_bind, Sem.run_pure, Result.andThen_ok, hrun]
    exact hnx _ _ (h _ (Own.mqFold (hm.putS hj hk hkm ho) H1.objSet))
theorem Do.deleteQ {k : Int} (H : Own w0 D w (mapq g m :: L)) (hd : P.underlying kt = some (.int .i64)) (ht : P.underlying t = some (.map kt e)) (hx : ev F x = some (.map (some g))) (hy : ev F y = some (kI k)) (h : ∀ w', Own w0 D w' (mapq g (sdel m k) :: L) → K (.tuple #[]) w') :
    Do P n F w (.call ⟨.builtin .delete, [x, y].toArray, [t, kt].toArray⟩) ty K := fun a ha o h1 h2 next Q hn => by
  obtain ⟨es, clock, hm, H1⟩ := H.mqOpen
  have hb := H1.objAt (i := 0) rfl
  unfold execOp
  rw [h1]
  simp only [resolve, invoke, builtin, Sem.run_bind, Sem.run_pure, Result.andThen_ok, List.map_toArray, List.map_cons, List.map_nil, ha.eval hx, ha.eval hy]
  rcases hm.find k with ⟨hf, _, hno⟩ | ⟨j, e0, u, hf, hj, hk, hv, hkm⟩
  · have hrun : (Builtin.delete_ #[t, kt] o.type #[.map (some g), kI k]).run P w = .ok (.tuple #[]) { w with heap := w.heap.setIfInBounds g (.map es clock) } := by
      simp [Builtin.delete_, run_underlying ht, Go.MapKept.run_getObj_map hb, Go.MapKept.run_checkKey hd (isKI k), Go.MapKept.run_findKey hd hf, Go.MapKept.run_setObj_map _ hb, Result.andThen]
    rw [hrun]
    exact hn _ _ (h _ (by rw [sdel_lenN hno]; exact Own.mqFold hm H1.objSet))
  · have hrun : (Builtin.delete_ #[t, kt] o.type #[.map (some g), kI k]).run P w = .ok (.tuple #[]) { w with heap := w.heap.setIfInBounds g (.map (es.eraseIdxIfInBounds j) clock) } := by
      simp [Builtin.delete_, run_underlying ht, Go.MapKept.run_getObj_map hb, Go.MapKept.run_checkKey hd (isKI k), Go.MapKept.run_findKey hd hf, Go.MapKept.run_setObj_map _ hb, Result.andThen]
    rw [hrun]
    exact hn _ _ (h _ (Own.mqFold (hm.delS hj hk hkm) H1.objSet))
theorem mq_nil (clock : Nat) : MQ #[] clock [] := ⟨List.Pairwise.nil, fun p hp => (by cases hp), Go.MapKept.stamped_empty _, rfl, fun e he => (by simp at he), fun p hp => (by cases hp)⟩
theorem Do.clearQ (H : Own w0 D w (mapq g m :: L)) (ht : P.underlying t = some (.map kt e)) (hx : ev F x = some (.map (some g))) (h : ∀ w', Own w0 D w' (mapq g [] :: L) → K (.tuple #[]) w') :
    Do P n F w (.call ⟨.builtin .clear, [x].toArray, [t].toArray⟩) ty K := fun a ha o h1 h2 next Q hn => by
  obtain ⟨es, clock, hm, H1⟩ := H.mqOpen
  have hb := H1.objAt (i := 0) rfl
  have hrun : (Builtin.clear_ #[t] o.type #[.map (some g)]).run P w = .ok (.tuple #[]) { w with heap := w.heap.setIfInBounds g (.map #[] clock) } := by
    simp [Builtin.clear_, run_underlying ht, Go.MapKept.run_getObj_map hb, Go.MapKept.run_setObj_map _ hb, Result.andThen]
  unfold execOp
  rw [h1]
  simp only [resolve, invoke, builtin, Sem.run_bind, Sem.run_pure, Result.andThen_ok, List.map_toArray, List.map_cons, List.map_nil, ha.eval hx, hrun]
  exact hn _ _ (h _ (Own.mqFold (mq_nil clock) H1.objSet))
theorem Do.makeMapQ (H : Own w0 D w L) (h : ∀ g w', Own w0 D w' (mapq g [] :: L) → K (.map (some g)) w') : Do P n F w (.makeMap t none) ty K := fun a ha o h1 h2 next Q hnx => by
  unfold execOp
  rw [h1]
  have hrun : (Instr.makeMap t none).run P w = .ok (.map (some w.heap.size)) (w.alloc (.map #[] 0)) := by
    simp [Instr.makeMap, Result.andThen]
  simp only [Option.map_none, Sem.run_bind, Sem.run_pure, Result.andThen_ok, hrun]
  exact hnx _ _ (h _ _ (Own.mqFold (mq_nil 0) (H.alloc _ (by show (if w.heap.size = w.heap.size then _ else _) = _; rw [if_pos rfl]))))
/-! ### ranges -/
structure MI (es : Array MapEntry) (clock since : Nat) (seen : Array Nat) (m left : List Ent) (cur : Option Ent) : Prop where
  mq : MQ es clock m
  old : ∀ e ∈ es.toList, e.born < since
  le : since ≤ clock
  srt : Srt left
  sub : ∀ p ∈ left, p ∈ m
  left_ : ∀ e ∈ es.toList, seen.contains e.born = false ↔ ∃ p ∈ left, e.key = kI p.1
  cur_ : ∀ p, cur = some p → ∃ e ∈ es.toList, ∃ s', seen = Array.push s' e.born ∧ e.key = kI p.1 ∧ e.val = vS p.2
/-- A map that is gone through: what is left, what came last. -/
def mapi (r g : Nat) (m left : List Ent) (cur : Option Ent) : HP := exS (fun x : Array MapEntry × Nat × Nat × Array Nat => MI x.1 x.2.1 x.2.2.1 x.2.2.2 m left cur) (fun x => [objE g (.map x.1 x.2.1), objE r (.mapIter (some g) x.2.2.1 x.2.2.2 x.2.1)])
theorem Do.rangeQ (H : Own w0 D w (mapq g m :: L)) (ht : P.underlying t = some (.map kt e)) (hx : ev F x = some (.map (some g))) (h : ∀ r w', Own w0 D w' (mapi r g m m none :: L) → K (.pointer (some ⟨r, 0, none⟩)) w') :
    Do P n F w (.range t x) ty K := fun a ha o h1 h2 next Q hn => by
  obtain ⟨es, clock, hm, H1⟩ := H.mqOpen
  have hb := H1.objAt (i := 0) rfl
  have hrun : (Instr.range t (.map (some g))).run P w = .ok (.pointer (some ⟨w.heap.size, 0, none⟩)) (w.alloc (.mapIter (some g) clock #[] clock)) := by
    simp [Instr.range, run_underlying ht, Go.MapKept.run_getObj_map hb, Result.andThen, go_sem]
  unfold execOp
  rw [h1]
  simp only [ha.eval hx, Sem.run_bind, Sem.run_pure, Result.andThen_ok, hrun]
  refine hn _ _ (h _ _ ?_)
  have H2 := (H1.alloc (.mapIter (some g) clock #[] clock) (R := objE w.heap.size (.mapIter (some g) clock #[] clock)) (by show (if w.heap.size = w.heap.size then _ else _) = _; rw [if_pos rfl])).perm (List.Perm.swap _ _ _)
  refine Own.exFold (es, clock, clock, #[]) ⟨hm, hm.st.1, Nat.le_refl _, hm.srt, fun p hp => hp, fun e he => ⟨fun _ => ?_, fun _ => by simp⟩, fun p hp => by cases hp⟩ H2
  obtain ⟨p, hp, e1, _⟩ := hm.to_ e he
  exact ⟨p, hp, e1⟩
/-- one more, or the end -/
theorem Do.nextQ {left : List Ent} {cur : Option Ent} (H : Own w0 D w (mapi r g m left cur :: L)) (hx : ev F x = some (.pointer (some ⟨r, 0, none⟩)))
    (h0 : left = [] → ∀ w', Own w0 D w' (mapq g m :: L) → K (.tuple #[.bool false]) w')
    (hs : ∀ p w', p ∈ left → Own w0 D w' (mapi r g m (sdel left p.1) (some p) :: L) → K (.tuple #[.bool true, kI p.1, vS p.2]) w') : Do P n F w (.next x false) ty K := fun a ha o h1 h2 next Q hn => by
  obtain ⟨⟨es, clock, since, seen⟩, hm, H1⟩ := Own.exOpen H
  have hb := H1.objAt (i := 0) rfl
  have hr := H1.objAt (i := 1) rfl
  unfold execOp
  rw [h1]
  simp only [ha.eval hx, Sem.run_bind, Sem.run_pure, Result.andThen_ok]
  rcases run_next_at (P := P) w o.type r g since clock seen es clock hr hb hm.old hm.le with ⟨hl, hrun⟩ | ⟨e, he, w1, hw1, hrun⟩
  · rw [hrun]
    have hnil : left = [] := by
      cases hleft : left with
      | nil => rfl
      | cons p l =>
        exfalso
        have hp : p ∈ left := by rw [hleft]; exact .head _
        obtain ⟨e, he, e1, _⟩ := hm.mq.from_ p (hm.sub p hp)
        have hc := (hm.left_ e he).2 ⟨p, hp, e1⟩
        have : e ∈ (leftOf es seen).toList := by
          unfold leftOf
          rw [Array.toList_filter]
          exact List.mem_filter.2 ⟨he, by rw [hc]; rfl⟩
        rw [Array.eq_empty_of_size_eq_zero hl] at this
        simp at this
    exact hn _ _ (h0 hnil _ (Own.mqFold hm.mq (Own.tail (H1.perm (List.Perm.swap _ _ _)))))
  · rw [hrun]
    unfold leftOf at he
    rw [Array.toList_filter] at he
    obtain ⟨he, hse⟩ := List.mem_filter.1 he
    have hse : seen.contains e.born = false := by simpa using hse
    obtain ⟨p, hp, ek⟩ := (hm.left_ e he).1 hse
    obtain ⟨p', hp', e1, e2⟩ := hm.mq.to_ e he
    have hpp : p' = p := srt_one hm.mq.srt hp' (hm.sub p hp) (kI_inj (e1.symm.trans ek))
    subst hpp
    have Hw : Own w0 D w1 ([objE g (.map es clock), objE r (.mapIter (some g) since seen clock)] ++ L) := by
      rcases hw1 with rfl | rfl
      · exact H1
      · exact H1.drew
    have H3 := ((Own.perm Hw (List.Perm.swap _ _ _)).objSet (o' := .mapIter (some g) since (seen.push e.born) clock)).perm (List.Perm.swap _ _ _)
    rw [e1, e2]
    refine hn _ _ (hs p' _ hp (Own.exFold (es, clock, since, seen.push e.born) ⟨hm.mq, hm.old, hm.le, sdel_srt hm.srt, fun q hq => hm.sub q (sdel_mem.1 hq).1, fun e' he' => ?_, fun q hq => ?_⟩ H3))
    · have hb' : e'.born = e.born ↔ e'.key = e.key := by
        obtain ⟨i, hi⟩ := List.mem_iff_getElem?.1 he
        obtain ⟨j, hj⟩ := List.mem_iff_getElem?.1 he'
        constructor
        · intro q
          have := nodup_idx hm.mq.st.2.1 hj hi q
          subst this
          rw [hi] at hj; injection hj with hj; rw [hj]
        · intro q
          have := nodup_idx hm.mq.st.2.2 hj hi q
          subst this
          rw [hi] at hj; injection hj with hj; rw [hj]
      have hc : (seen.push e.born).contains e'.born = false ↔ seen.contains e'.born = false ∧ ¬ e'.key = e.key := by
        rw [← hb']
        simp only [Array.contains_push, Bool.or_eq_false_iff, beq_eq_false_iff_ne, ne_eq]
      rw [hc, hm.left_ e' he', e1]
      constructor
      · rintro ⟨⟨q, hq, eq⟩, hne⟩
        exact ⟨q, sdel_mem.2 ⟨hq, fun e9 => hne (by rw [eq, e9])⟩, eq⟩
      · rintro ⟨q, hq, eq⟩
        obtain ⟨hq, hne⟩ := sdel_mem.1 hq
        exact ⟨⟨q, hq, eq⟩, fun e9 => hne (kI_inj (eq.symm.trans e9))⟩
    · injection hq with hq
      subst hq
      exact ⟨e, he, seen, rfl, e1, e2⟩
theorem Yl.entryQ {left : List Ent} {p : Ent} (H : Own w0 D w L) (hi : L[i]? = some (mapi r g m left (some p))) (hx : ev F x = some (.pointer (some ⟨r, 0, none⟩))) : Yl P n F w (.entry x) ty (.tuple #[kI p.1, vS p.2]) := fun a ha o h1 _ => by
  obtain ⟨h, ⟨⟨es, clock, since, seen⟩, hm, hs⟩, h2⟩ := H.get hi
  obtain ⟨f, f1, f2, _⟩ := hs
  have hb := h2 g _ (f2 0 g _ (f1 0 _ rfl))
  have hr := h2 r _ (f2 1 r _ (f1 1 _ rfl))
  obtain ⟨e, he, s', es', e1, e2⟩ := hm.cur_ p rfl
  simp only at es'
  rw [es'] at hr
  unfold execOp
  rw [h1]
  simp only [ha.eval hx, Sem.run_bind, Sem.run_pure, Result.andThen_ok]
  have hrun := run_entry_at (P := P) w r g since s' es clock e hr hb he hm.mq.st.2.1
  rw [hrun, e1, e2]
  rfl
end
end Go.Proofs.Ytmhhmhaigmjekaa
