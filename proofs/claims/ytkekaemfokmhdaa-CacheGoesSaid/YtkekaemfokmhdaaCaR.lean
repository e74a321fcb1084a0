/-
  Which pages a cache has, and saves. Conditions: none beyond each law's own.
-/
import Derived.Test.YtkekaemfokmhdaaCaN
import Derived.Test.YtkekaemfokmhdaaCd
namespace Go.Proofs.Ytkekaemfokmhdaa
set_option linter.unusedVariables false
set_option linter.unusedSimpArgs false
def IdsOk (l : List placeT) : Prop := ∀ p ∈ l, (p.xfull = true → 1 ≤ p.xid ∧ p.xid ≤ 6) ∧ (p.xdirty = true → p.xfull = true)
def CsOk (c : List CallD) : Prop := ∀ k ∈ c, k.xKind = 2 → 1 ≤ k.xId ∧ k.xId ≤ 6
theorem ids_rep (n : Nat) : IdsOk (List.replicate n (placeT.mk false 0 (Ll.mk ([])) 0 false false 0)) := fun p hp => by
  rw [(List.mem_replicate.1 hp).2]; exact ⟨fun h => (by cases h), fun h => (by cases h)⟩
theorem cs_nil : CsOk [] := fun k hk => by cases hk
theorem cs_new : CsOk (r10_NewBack 6 (-1)).xCalls := fun k hk => by
  have e : (r10_NewBack 6 (-1)).xCalls = [] := rfl
  rw [e] at hk; cases hk
theorem cs_app {c : List CallD} {k : CallD} (h : CsOk c) (hk : k.xKind = 2 → 1 ≤ k.xId ∧ k.xId ≤ 6) : CsOk (c ++ [k]) := fun j hj => by
  rcases List.mem_append.1 hj with e | e
  · exact h j e
  · rw [List.mem_singleton.1 e]; exact hk
theorem load_calls (b : BackT) (id : Int) : (r10_Back_Load b id).2.2.xCalls = b.xCalls ++ [CallD.mk 1 id 0 []] := by
  unfold r10_Back_Load
  simp only [bnd_eq]
  repeat' split
  all_goals rfl
theorem save_calls (b : BackT) (id : Int) (t : List UInt8) : (r10_Back_Save b id t).2.xCalls = b.xCalls ++ [CallD.mk 2 id 0 t] := by
  unfold r10_Back_Save
  repeat' split
  all_goals rfl
theorem force_calls (b : BackT) (n : Nat) : (r10_Back_Force b n).2.xCalls = b.xCalls ++ [CallD.mk 3 0 n []] := by
  unfold r10_Back_Force
  repeat' split
  all_goals rfl
theorem cs_load {b : BackT} (h : CsOk b.xCalls) (id : Int) : CsOk (r10_Back_Load b id).2.2.xCalls := by
  rw [load_calls]; exact cs_app h fun e => by cases e
theorem cs_save {b : BackT} (h : CsOk b.xCalls) {id : Int} (t : List UInt8) (hi : 1 ≤ id ∧ id ≤ 6) : CsOk (r10_Back_Save b id t).2.xCalls := by
  rw [save_calls]; exact cs_app h fun _ => hi
theorem cs_force {b : BackT} (h : CsOk b.xCalls) (n : Nat) : CsOk (r10_Back_Force b n).2.xCalls := by
  rw [force_calls]; exact cs_app h fun e => by cases e
theorem cs_wb {b : BackT} (h : CsOk b.xCalls) {x : placeT} (hx : x.xdirty = true → 1 ≤ x.xid ∧ x.xid ≤ 6) : CsOk (wb b x).2.xCalls := by
  unfold wb
  by_cases d : x.xdirty = true
  · rw [if_pos d]
    split
    · split
      · exact cs_save (cs_force h _) _ (hx d)
      · exact cs_force h _
    · exact cs_save h _ (hx d)
  · rw [if_neg d]; exact h
theorem ids_mid {a c : List placeT} {x y : placeT} (h : IdsOk (a ++ x :: c)) (hy : (y.xfull = true → 1 ≤ y.xid ∧ y.xid ≤ 6) ∧ (y.xdirty = true → y.xfull = true)) : IdsOk (a ++ y :: c) := fun p hp => by
  rcases mem_mid.1 hp with e | e
  · rw [e]; exact hy
  · exact h p (mem_mid.2 (.inr e))
theorem Tch.ids {l m : List placeT} (h : Tch l m) (hi : IdsOk l) : IdsOk m := fun p hp => by
  obtain ⟨q, hq, e⟩ := h.mem hp
  obtain ⟨f1, f2, _, _, f5, _⟩ := unt_f e
  have := hi q hq
  rw [f1, f2, f5] at this
  exact this
theorem pin_ids {c : CacheT} {b : BackT} {id : Int} {t : List UInt8} {e : Int} {c' : CacheT} {b' : BackT} (hl : 1 ≤ List.length c.xplaces.ls) (hz : 0 ≤ c.xhand ∧ c.xhand < ((List.length c.xplaces.ls : Nat) : Int)) (hi : IdsOk c.xplaces.ls) (hc : CsOk b.xCalls) (h1 : 1 ≤ id ∧ id ≤ 6) (hr : cache_Cache_Pin c id b = (t, e, c', b')) : IdsOk c'.xplaces.ls ∧ CsOk b'.xCalls := by
  have main : IdsOk (cache_Cache_Pin c id b).2.2.1.xplaces.ls ∧ CsOk (cache_Cache_Pin c id b).2.2.2.xCalls := by
    obtain ⟨⟨l⟩, z⟩ := c
    have hld : ∀ {a q l0 : List placeT} {x : placeT} {z' : Int} {b1 : BackT}, IdsOk (a ++ x :: q) → IdsOk l0 → CsOk b1.xCalls → IdsOk (ld a q l0 id z' b1).2.2.1.xplaces.ls ∧ CsOk (ld a q l0 id z' b1).2.2.2.xCalls := fun {a q l0 x z' b1} k1 k2 k3 => by
      unfold ld
      split
      · exact ⟨ids_mid k1 ⟨fun _ => h1, fun f => by cases f⟩, cs_load k3 _⟩
      · exact ⟨k2, cs_load k3 _⟩
    rcases pin_cases id b (l := l) (z := z) hl hz.1 hz.2 with ⟨a, x, q, e, u1, u2, u3⟩ | ⟨u0, ⟨a, x, q, e, u1, u2, u3⟩ | ⟨u1, ⟨u2, u3⟩ | ⟨u2, a, x, q, z', u3, u4, u5, u6, u7, u8⟩⟩⟩
    · rw [u3]
      have hx := hi x (by show x ∈ l; rw [e]; exact mem_mid.2 (.inl rfl))
      exact ⟨ids_mid (x := x) (by rw [← e]; exact hi) ⟨hx.1, hx.2⟩, hc⟩
    · rw [u3]
      exact hld (x := x) (by rw [← e]; exact hi) hi hc
    · rw [u3]; exact ⟨hi, hc⟩
    · rw [u4]
      have hm := u7.ids hi
      have hx := hm x (mem_mid.2 (.inl rfl))
      have hw := cs_wb hc (x := x) fun d => hx.1 (hx.2 d)
      unfold fin2
      split
      · exact hld (x := x) hm (ids_mid hm ⟨fun f => (by cases f), fun f => (by cases f)⟩) hw
      · exact ⟨hm, hw⟩
  rw [hr] at main
  exact main
theorem unpin_ids {c : CacheT} {b : BackT} {id : Int} {e : Int} {c' : CacheT} {b' : BackT} (hi : IdsOk c.xplaces.ls) (hr : cache_Cache_Unpin c id b = (e, c', b')) : IdsOk c'.xplaces.ls ∧ b' = b := by
  have main : IdsOk (cache_Cache_Unpin c id b).2.1.xplaces.ls ∧ (cache_Cache_Unpin c id b).2.2 = b := by
    obtain ⟨⟨l⟩, z⟩ := c
    rcases unpin_cases l z id b with ⟨u1, u2⟩ | ⟨a, x, q, e, u1, u2, ⟨u3, u4⟩ | ⟨u3, u4⟩⟩
    · rw [u2]; exact ⟨hi, rfl⟩
    · rw [u4]
      have hx := hi x (by show x ∈ l; rw [e]; exact mem_mid.2 (.inl rfl))
      exact ⟨ids_mid (x := x) (by rw [← e]; exact hi) ⟨hx.1, hx.2⟩, rfl⟩
    · rw [u4]; exact ⟨hi, rfl⟩
  rw [hr] at main
  exact main
def putP (x : placeT) (t : List UInt8) (n : Nat) : placeT := placeT.mk x.xfull x.xid (Ll.mk t) x.xpins true true (if x.xdirty = true then max n x.xlsn else n)
theorem put_cases (l : List placeT) (z id : Int) (t : List UInt8) (n : Nat) (b : BackT) :
    ((∀ p ∈ l, hit id p = false) ∧ cache_Cache_Put (CacheT.mk (Ll.mk l) z) id t n b = (5, CacheT.mk (Ll.mk l) z, b)) ∨
    ∃ a x c, l = a ++ x :: c ∧ (∀ p ∈ a, hit id p = false) ∧ hit id x = true ∧ ((x.xpins > 0 ∧ cache_Cache_Put (CacheT.mk (Ll.mk l) z) id t n b = (0, CacheT.mk (Ll.mk (a ++ putP x t n :: c)) z, b)) ∨ (¬ x.xpins > 0 ∧ cache_Cache_Put (CacheT.mk (Ll.mk l) z) id t n b = (5, CacheT.mk (Ll.mk l) z, b))) := by
  have go : ∀ (q pre : List placeT), l = pre ++ q →
      ((∀ p ∈ q, hit id p = false) ∧ cache_Cache_Put_L0 (CacheT.mk (Ll.mk l) z) id t n b q pre.length = .inl ()) ∨
      ∃ a x c, q = a ++ x :: c ∧ (∀ p ∈ a, hit id p = false) ∧ hit id x = true ∧ ((x.xpins > 0 ∧ cache_Cache_Put_L0 (CacheT.mk (Ll.mk l) z) id t n b q pre.length = .inr (0, CacheT.mk (Ll.mk (pre ++ a ++ putP x t n :: c)) z, b)) ∨ (¬ x.xpins > 0 ∧ cache_Cache_Put_L0 (CacheT.mk (Ll.mk l) z) id t n b q pre.length = .inr (5, CacheT.mk (Ll.mk l) z, b))) := by
    intro q
    induction q with
    | nil => intro pre _; exact .inl ⟨fun p hp => (by cases hp), rfl⟩
    | cons x q ih =>
      intro pre e
      by_cases hx : hit id x = true
      · obtain ⟨h1, h2⟩ := hit_t.1 hx
        refine .inr ⟨[], x, q, rfl, fun p hp => (by cases hp), hx, ?_⟩
        rw [cache_Cache_Put_L0, if_pos h1, if_pos h2]
        by_cases h3 : x.xpins > 0
        · refine .inl ⟨h3, ?_⟩
          rw [if_pos h3, e]
          unfold putP
          by_cases h4 : x.xdirty = true
          · rw [if_pos h4, if_pos h4]
            simp only [bnd_eq, stt, gd, List.append_nil]
          · rw [if_neg h4, if_neg h4]
            simp only [bnd_eq, stt, gd, List.append_nil]
        · exact .inr ⟨h3, by rw [if_neg h3]⟩
      · have hx' := Bool.eq_false_iff.2 hx
        have step : cache_Cache_Put_L0 (CacheT.mk (Ll.mk l) z) id t n b (x :: q) pre.length = cache_Cache_Put_L0 (CacheT.mk (Ll.mk l) z) id t n b q (pre ++ [x]).length := by
          rw [cache_Cache_Put_L0, List.length_append, List.length_cons, List.length_nil]
          by_cases h1 : x.xfull = true
          · rw [if_pos h1, if_neg (fun h2 => hx (hit_t.2 ⟨h1, h2⟩))]
          · rw [if_neg h1]
        rw [step]
        rcases ih (pre ++ [x]) (by rw [e]; simp) with ⟨k1, k2⟩ | ⟨a, y, c, k1, k2, k3, k4⟩
        · refine .inl ⟨fun p hp => ?_, k2⟩
          rcases List.mem_cons.1 hp with r | r
          · rw [r]; exact hx'
          · exact k1 p r
        · refine .inr ⟨x :: a, y, c, by rw [k1]; rfl, fun p hp => ?_, k3, ?_⟩
          · rcases List.mem_cons.1 hp with r | r
            · rw [r]; exact hx'
            · exact k2 p r
          · rcases k4 with ⟨k4, k5⟩ | ⟨k4, k5⟩
            · exact .inl ⟨k4, by rw [k5]; simp⟩
            · exact .inr ⟨k4, k5⟩
  rcases go l [] rfl with ⟨k1, k2⟩ | ⟨a, x, c, k1, k2, k3, k4⟩
  · refine .inl ⟨k1, ?_⟩
    show lp (cache_Cache_Put_L0 (CacheT.mk (Ll.mk l) z) id t n b l ([] : List placeT).length) _ = _
    rw [k2]; rfl
  · refine .inr ⟨a, x, c, k1, k2, k3, ?_⟩
    show (_ ∧ lp (cache_Cache_Put_L0 (CacheT.mk (Ll.mk l) z) id t n b l ([] : List placeT).length) _ = _) ∨ (_ ∧ lp (cache_Cache_Put_L0 (CacheT.mk (Ll.mk l) z) id t n b l ([] : List placeT).length) _ = _)
    rcases k4 with ⟨k4, k5⟩ | ⟨k4, k5⟩
    · exact .inl ⟨k4, by rw [k5]; rfl⟩
    · exact .inr ⟨k4, by rw [k5]; rfl⟩
theorem put_ids {c : CacheT} {b : BackT} {id : Int} {t : List UInt8} {n : Nat} {e : Int} {c' : CacheT} {b' : BackT} (hi : IdsOk c.xplaces.ls) (hr : cache_Cache_Put c id t n b = (e, c', b')) : IdsOk c'.xplaces.ls ∧ b' = b := by
  have main : IdsOk (cache_Cache_Put c id t n b).2.1.xplaces.ls ∧ (cache_Cache_Put c id t n b).2.2 = b := by
    obtain ⟨⟨l⟩, z⟩ := c
    rcases put_cases l z id t n b with ⟨u1, u2⟩ | ⟨a, x, q, e, u1, u2, ⟨u3, u4⟩ | ⟨u3, u4⟩⟩
    · rw [u2]; exact ⟨hi, rfl⟩
    · rw [u4]
      have hx := hi x (by show x ∈ l; rw [e]; exact mem_mid.2 (.inl rfl))
      exact ⟨ids_mid (x := x) (by rw [← e]; exact hi) ⟨hx.1, fun _ => (hit_t.1 u2).1⟩, rfl⟩
    · rw [u4]; exact ⟨hi, rfl⟩
  rw [hr] at main
  exact main
theorem cs_at {c : List CallD} {i : Nat} {x : CallD} (h : CsOk c) (hx : c[i]? = some x) : ¬ x.xKind = 2 ∨ (1 ≤ x.xId ∧ x.xId ≤ 6) := by
  by_cases e : x.xKind = 2
  · exact .inr (h x (List.mem_of_getElem? hx) e)
  · exact .inl e
end Go.Proofs.Ytkekaemfokmhdaa
