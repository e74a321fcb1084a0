/-
  Places: texts that are short, one that is not pinned, how long the hand goes round. Conditions: none beyond each law's own.
-/
import Derived.Test.YtkekaemfokmhdaaCa
namespace Go.Proofs.Ytkekaemfokmhdaa
set_option linter.unusedVariables false
set_option linter.unusedSimpArgs false
def BsOk (l : List placeT) : Prop := ∀ p ∈ l, List.length p.xbytes.ls ≤ 140737488351232
theorem bs_at {l : List placeT} {i : Nat} {x : placeD} (h : BsOk l) (hx : l[i]? = some (placeD.abs x)) : List.length x.xbytes.ls ≤ 140737488351232 := h _ (List.mem_of_getElem? hx)
theorem bs_set {l : List placeT} {i : Nat} {y : placeT} (h : BsOk l) (hy : List.length y.xbytes.ls ≤ 140737488351232) : BsOk (List.set l i y) := fun p hp => by
  rcases List.mem_or_eq_of_mem_set hp with e | e
  · exact h p e
  · rw [e]; exact hy
theorem bs_rep {n : Nat} {y : placeT} (hy : List.length y.xbytes.ls ≤ 140737488351232) : BsOk (List.replicate n y) := fun p hp => by rw [(List.mem_replicate.1 hp).2]; exact hy
def UnP (l : List placeT) : Prop := ∃ p ∈ l, p.xpins = 0
theorem un_dec {l : List placeT} {i : Nat} {y : placeT} (h : l[i]? = some y) : UnP l ∨ decide (y.xpins = 0) = false := by
  by_cases c : y.xpins = 0
  · exact .inl ⟨y, List.mem_of_getElem? h, c⟩
  · exact .inr (decide_eq_false c)
theorem un_keep {l : List placeT} {b c : Bool} (h : UnP l ∨ b = false) (hb : b = true) : UnP l ∨ c = false := .inl (h.resolve_right (by rw [hb]; decide))
theorem un_true {l : List placeT} {b : Bool} (h : UnP l ∨ b = false) (hb : b = true) : UnP l := h.resolve_right (by rw [hb]; decide)
theorem un_set {l : List placeT} {i : Nat} {x y : placeT} (h : UnP l) (hx : l[i]? = some x) (e : y.xpins = x.xpins) : UnP (List.set l i y) := by
  obtain ⟨p, hp, h0⟩ := h
  obtain ⟨j, hj⟩ := List.mem_iff_getElem?.1 hp
  have hi := (List.getElem?_eq_some_iff.1 hx).1
  by_cases c : j = i
  · subst c
    rw [hx] at hj; cases hj
    exact ⟨y, List.mem_of_getElem? (i := j) (by rw [List.getElem?_set_self hi]), by rw [e]; exact h0⟩
  · exact ⟨p, List.mem_of_getElem? (i := j) (by rw [List.getElem?_set_ne (Ne.symm c)]; exact hj), h0⟩
def go9 (p : placeT) : Bool := decide (¬ p.xpins > 0)
def tc (l : List placeT) : Nat := (l.filter fun p => go9 p && p.xtouched).length
def dst (l : List placeT) (h : Nat) : Nat := (List.drop h l ++ List.take h l).findIdx go9
def tm (l : List placeT) (h : Nat) : Nat := tc l * (l.length + 1) + dst l h
theorem hand_next {z : Int} {n : Nat} (h0 : 0 ≤ z) (h1 : z < (n : Int)) : Int.tmod (z + 1) (n : Int) = if z + 1 = (n : Int) then 0 else z + 1 := by
  by_cases c : z + 1 = (n : Int)
  · rw [if_pos c, c, Int.tmod_self]
  · rw [if_neg c, Int.tmod_eq_of_lt (by omega) (by omega)]
theorem dst_lt {l : List placeT} (hu : UnP l) (h : Nat) : dst l h < l.length := by
  obtain ⟨p, hp, h0⟩ := hu
  unfold dst
  have e : (List.drop h l ++ List.take h l).length = l.length := by rw [List.length_append, List.length_drop, List.length_take]; omega
  rw [← e]
  refine List.findIdx_lt_length_of_exists ⟨p, ?_, decide_eq_true (by omega)⟩
  rw [← List.take_append_drop h l] at hp
  rcases List.mem_append.1 hp with q | q
  · exact List.mem_append_right _ q
  · exact List.mem_append_left _ q
def nx (n h : Nat) : Nat := if h + 1 = n then 0 else h + 1
theorem dst_next {l : List placeT} {h : Nat} {x : placeT} (hx : l[h]? = some x) (hp : x.xpins > 0) (hu : UnP l) : dst l (nx l.length h) + 1 = dst l h := by
  obtain ⟨hh, rfl⟩ := List.getElem?_eq_some_iff.1 hx
  have hd := dst_lt hu h
  have e1 : List.drop h l ++ List.take h l = l[h] :: (List.drop (h + 1) l ++ List.take h l) := by rw [List.drop_eq_getElem_cons hh]; rfl
  have e2 : dst l h = (List.drop (h + 1) l ++ List.take h l).findIdx go9 + 1 := by
    unfold dst
    rw [e1, List.findIdx_cons, show go9 l[h] = false from decide_eq_false (fun q => q hp)]
    rfl
  have e3 : List.drop (nx l.length h) l ++ List.take (nx l.length h) l = (List.drop (h + 1) l ++ List.take h l) ++ [l[h]] := by
    unfold nx
    by_cases c : h + 1 = l.length
    · rw [if_pos c, List.drop_zero, List.take_zero, List.append_nil, List.drop_eq_nil_of_le (by omega), List.nil_append]
      conv => lhs; rw [← List.take_append_drop h l]
      rw [List.drop_eq_getElem_cons hh, List.drop_eq_nil_of_le (by omega)]
    · rw [if_neg c, List.take_succ_eq_append_getElem hh, ← List.append_assoc]
  have e4 : (List.drop (h + 1) l ++ List.take h l).findIdx go9 < (List.drop (h + 1) l ++ List.take h l).length := by
    rw [List.length_append, List.length_drop, List.length_take]; omega
  rw [e2]
  unfold dst
  rw [e3, List.findIdx_append, if_pos e4]
theorem tm_pin {l : List placeT} {z z' : Int} {n f : Nat} {x : placeT} (hu : UnP l) (hx : l[Int.toNat z]? = some x) (hp : x.xpins > 0) (h0 : 0 ≤ z) (hl : List.length l = n) (hz : z' = if z + 1 = (n : Int) then 0 else z + 1) (hf : tm l (Int.toNat z) < f + 1) : tm l (Int.toNat z') < f := by
  have e : Int.toNat z' = nx l.length (Int.toNat z) := by
    unfold nx
    rw [hz, hl]
    by_cases c : z + 1 = (n : Int)
    · rw [if_pos c, if_pos (by omega)]; rfl
    · rw [if_neg c, if_neg (by omega)]; omega
  have := dst_next hx hp hu
  rw [e]
  unfold tm at hf ⊢
  omega
theorem filt_set {α : Type} (p : α → Bool) {l : List α} {i : Nat} {x y : α} (hx : l[i]? = some x) (h1 : p x = true) (h2 : p y = false) : ((List.set l i y).filter p).length + 1 = (l.filter p).length := by
  obtain ⟨hi, rfl⟩ := List.getElem?_eq_some_iff.1 hx
  rw [List.set_eq_take_append_cons_drop, if_pos hi]
  conv => rhs; rw [← List.take_append_drop i l, List.drop_eq_getElem_cons hi]
  rw [List.filter_append, List.filter_append, List.filter_cons_of_neg (by rw [h2]; decide), List.filter_cons_of_pos h1]
  simp only [List.length_append, List.length_cons]; omega
theorem tm_touch {l : List placeT} {z z' : Int} {f : Nat} {x y : placeT} (hu : UnP l) (hx : l[Int.toNat z]? = some x) (hp : ¬ x.xpins > 0) (ht : x.xtouched = true) (hyp : y.xpins = x.xpins) (hyt : y.xtouched = false) (hf : tm l (Int.toNat z) < f + 1) : tm (List.set l (Int.toNat z) y) (Int.toNat z') < f := by
  have h1 := filt_set (fun p : placeT => go9 p && p.xtouched) hx (by simp only [go9, ht, Bool.and_true]; exact decide_eq_true hp) (y := y) (by simp only [hyt, Bool.and_false])
  have h2 := dst_lt (un_set hu hx hyp) (Int.toNat z')
  have h3 : (List.set l (Int.toNat z) y).length = l.length := List.length_set
  rw [h3] at h2
  unfold tm at hf ⊢
  rw [h3]
  have h4 : tc l = tc (List.set l (Int.toNat z) y) + 1 := h1.symm
  rw [h4, Nat.add_mul, Nat.one_mul] at hf
  omega
end Go.Proofs.Ytkekaemfokmhdaa
