/-
  All that waits made safe, in whatever order it comes.
  Conditions: none beyond each law's own.
-/
import Derived.Test.YtmhhmhaigmjekaaDiM
namespace Go.Proofs.Ytmhhmhaigmjekaa
set_option linter.unusedVariables false
set_option linter.unusedSimpArgs false
theorem mget_iff {m : List Ent} (h : Srt m) (k : Int) (v : List UInt8) : mget m k = some v ↔ (k, v) ∈ m := ⟨mget_mem, srt_get h⟩
theorem srt_eq {a b : List Ent} (ha : Srt a) (hb : Srt b) (h : ∀ k, mget a k = mget b k) : a = b := srt_ext ha hb fun p => by
  rw [show p = (p.1, p.2) from rfl, ← mget_iff ha, ← mget_iff hb, h]
theorem mget_eq_of {m : List Ent} (h : Srt m) {k : Int} {o : Option (List UInt8)} (ho : ∀ v, o = some v ↔ (k, v) ∈ m) : mget m k = o := by
  cases e : mget m k with
  | some v => exact ((ho v).2 (mget_mem e)).symm
  | none =>
    cases o with
    | none => rfl
    | some v => rw [srt_get h ((ho v).1 rfl)] at e; cases e
theorem mget_sput {m : List Ent} (h : Srt m) (k j : Int) (v : List UInt8) : mget (sput m k v) j = if k = j then some v else mget m j := by
  refine mget_eq_of (sput_srt h) fun u => ?_
  rw [sput_mem h]
  by_cases e : k = j
  · subst e
    rw [if_pos rfl]
    constructor
    · intro q; injection q with q; rw [q]; exact .inl rfl
    · rintro (q | ⟨_, q⟩)
      · injection q with _ q; rw [q]
      · exact absurd rfl q
  · rw [if_neg e, mget_iff h]
    constructor
    · intro q; exact .inr ⟨q, fun e2 => e e2.symm⟩
    · rintro (q | ⟨q, _⟩)
      · injection q with q _; exact absurd q.symm e
      · exact q
theorem mget_sdel {m : List Ent} (h : Srt m) (k j : Int) : mget (sdel m k) j = if k = j then none else mget m j := by
  refine mget_eq_of (sdel_srt h) fun u => ?_
  rw [sdel_mem]
  by_cases e : k = j
  · subst e
    rw [if_pos rfl]
    exact ⟨fun q => (by cases q), fun q => absurd rfl q.2⟩
  · rw [if_neg e, mget_iff h]
    exact ⟨fun q => ⟨q, fun e2 => e e2.symm⟩, fun q => q.1⟩
def keep1 (s : List Ent) (p : Ent) : List Ent := if p.2 = List.replicate 64 (0 : UInt8) then sdel s p.1 else sput s p.1 p.2
def keepAll (s l : List Ent) : List Ent := l.foldl keep1 s
theorem keep1_srt {s : List Ent} (h : Srt s) (p : Ent) : Srt (keep1 s p) := by
  unfold keep1
  split
  · exact sdel_srt h
  · exact sput_srt h
theorem mget_keep1 {s : List Ent} (h : Srt s) (p : Ent) (j : Int) : mget (keep1 s p) j = if p.1 = j then (if p.2 = List.replicate 64 (0 : UInt8) then none else some p.2) else mget s j := by
  unfold keep1
  by_cases e : p.2 = List.replicate 64 (0 : UInt8)
  · rw [if_pos e, mget_sdel h, if_pos e]
  · rw [if_neg e, mget_sput h, if_neg e]
theorem keepAll_srt : ∀ {l s : List Ent}, Srt s → Srt (keepAll s l)
  | [], s, h => h
  | p :: l, s, h => keepAll_srt (l := l) (keep1_srt h p)
theorem mget_keepAll : ∀ {l s : List Ent}, Srt s → Srt l → ∀ j, mget (keepAll s l) j = match mget l j with | some v => if v = List.replicate 64 (0 : UInt8) then none else some v | none => mget s j
  | [], s, _, _, j => rfl
  | (k, v) :: l, s, hs, hl, j => by
    obtain ⟨h1, h2⟩ := List.pairwise_cons.1 hl
    show mget (keepAll (keep1 s (k, v)) l) j = _
    rw [mget_keepAll (keep1_srt hs _) h2 j, mget_keep1 hs]
    by_cases e : k = j
    · subst e
      have hn : mget l k = none := mget_none fun q hq e => by have := h1 q hq; simp only at this; omega
      rw [hn]
      simp only [mget, if_true]
    · simp only [mget, e, if_false]
theorem keep_next {s left s' y : List Ent} {p : Ent} (hf : keepAll s left = y) (hs : Srt left) (hss : Srt s) (hp : p ∈ left) (he : keep1 s p = s') : keepAll s' (sdel left p.1) = y := by
  subst hf; subst he
  refine srt_eq (keepAll_srt (keep1_srt hss _)) (keepAll_srt hss) fun j => ?_
  rw [mget_keepAll (keep1_srt hss _) (sdel_srt hs), mget_keepAll hss hs, mget_sdel hs, mget_keep1 hss]
  by_cases e : p.1 = j
  · subst e
    rw [if_pos rfl, if_pos rfl, srt_get hs (show (p.1, p.2) ∈ left from hp)]
  · rw [if_neg e, if_neg e]
theorem sdel_lt {left : List Ent} {p : Ent} (hp : p ∈ left) : List.length (sdel left p.1) < List.length left := List.length_filter_lt_length_iff_exists.2 ⟨p, hp, by simp⟩
theorem Own.miOk {w0 w : World} {D : Nat → Prop} {L : List HP} {i r g : Nat} {m left : List Ent} {cur : Option Ent} (H : Own w0 D w L) (hi : L[i]? = some (mapi r g m left cur)) : Srt left ∧ ∀ p ∈ left, 0 ≤ p.1 ∧ p.1 < 4096 ∧ List.length p.2 = 64 := by
  obtain ⟨h, ⟨⟨es, clock, since, seen⟩, hm, hs⟩, h2⟩ := H.get hi
  exact ⟨hm.srt, fun p hp => hm.mq.ok p (hm.sub p hp)⟩
end Go.Proofs.Ytmhhmhaigmjekaa
