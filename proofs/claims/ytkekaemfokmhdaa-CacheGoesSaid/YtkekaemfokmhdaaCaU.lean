/-
  The document's places: as the program's, without memory; how long its hand goes round. Conditions: none beyond each law's own.
-/
import Derived.Test.YtkekaemfokmhdaaCaS
namespace Go.Proofs.Ytkekaemfokmhdaa
set_option linter.unusedVariables false
set_option linter.unusedSimpArgs false
def toT (p : PlaceD) : placeT := placeT.mk p.xFull p.xId (Ll.mk p.xBytes) p.xPins p.xTouched p.xDirty p.xLsn
def RsOk (l : List PlaceD) : Prop := ∀ p ∈ l, List.length p.xBytes ≤ 140737488351232
theorem rs_at {l : List PlaceD} {i : Nat} {x : PlaceD} (h : RsOk l) (hx : l[i]? = some x) : List.length x.xBytes ≤ 140737488351232 := h _ (List.mem_of_getElem? hx)
theorem rs_set {l : List PlaceD} {i : Nat} {y : PlaceD} (h : RsOk l) (hy : List.length y.xBytes ≤ 140737488351232) : RsOk (List.set l i y) := fun p hp => by
  rcases List.mem_or_eq_of_mem_set hp with e | e
  · exact h p e
  · rw [e]; exact hy
theorem rs_rep {n : Nat} {y : PlaceD} (hy : List.length y.xBytes ≤ 140737488351232) : RsOk (List.replicate n y) := fun p hp => by rw [(List.mem_replicate.1 hp).2]; exact hy
/-- one is not pinned -/
def UnQ (l : List placeT) : Prop := ∃ p ∈ l, ¬ p.xpins > 0
def UnR (l : List PlaceD) : Prop := UnQ (l.map toT)
theorem unr_dec {l : List PlaceD} {i : Nat} {y : PlaceD} (h : l[i]? = some y) : UnR l ∨ decide (y.xPins > 0) = true := by
  by_cases c : y.xPins > 0
  · exact .inr (decide_eq_true c)
  · exact .inl ⟨toT y, List.mem_map.2 ⟨y, List.mem_of_getElem? h, rfl⟩, c⟩
theorem unr_keep {l : List PlaceD} {b c : Bool} (h : UnR l ∨ b = true) (hb : b = false) : UnR l ∨ c = true := .inl (h.resolve_right (by rw [hb]; decide))
theorem unr_true {l : List PlaceD} {b : Bool} (h : UnR l ∨ b = true) (hb : b = false) : UnR l := h.resolve_right (by rw [hb]; decide)
theorem unq_set {l : List placeT} {i : Nat} {x y : placeT} (h : UnQ l) (hx : l[i]? = some x) (e : y.xpins = x.xpins) : UnQ (List.set l i y) := by
  obtain ⟨p, hp, h0⟩ := h
  obtain ⟨j, hj⟩ := List.mem_iff_getElem?.1 hp
  have hi := (List.getElem?_eq_some_iff.1 hx).1
  by_cases c : j = i
  · subst c
    rw [hx] at hj; cases hj
    exact ⟨y, List.mem_of_getElem? (i := j) (by rw [List.getElem?_set_self hi]), by rw [e]; exact h0⟩
  · exact ⟨p, List.mem_of_getElem? (i := j) (by rw [List.getElem?_set_ne (Ne.symm c)]; exact hj), h0⟩
theorem map_at {l : List PlaceD} {i : Nat} {x : PlaceD} (h : l[i]? = some x) : (l.map toT)[i]? = some (toT x) := by rw [List.getElem?_map, h]; rfl
theorem unr_set {l : List PlaceD} {i : Nat} {x y : PlaceD} (h : UnR l) (hx : l[i]? = some x) (e : y.xPins = x.xPins) : UnR (List.set l i y) := by
  unfold UnR
  rw [List.map_set]
  exact unq_set h (map_at hx) e
theorem dstq_lt {l : List placeT} (hu : UnQ l) (h : Nat) : dst l h < l.length := by
  obtain ⟨p, hp, h0⟩ := hu
  unfold dst
  have e : (List.drop h l ++ List.take h l).length = l.length := by rw [List.length_append, List.length_drop, List.length_take]; omega
  rw [← e]
  refine List.findIdx_lt_length_of_exists ⟨p, ?_, decide_eq_true h0⟩
  rw [← List.take_append_drop h l] at hp
  rcases List.mem_append.1 hp with q | q
  · exact List.mem_append_right _ q
  · exact List.mem_append_left _ q
theorem dstq_next {l : List placeT} {h : Nat} {x : placeT} (hx : l[h]? = some x) (hp : x.xpins > 0) (hu : UnQ l) : dst l (nx l.length h) + 1 = dst l h := by
  obtain ⟨hh, rfl⟩ := List.getElem?_eq_some_iff.1 hx
  have hd := dstq_lt hu h
  have e1 : List.drop h l ++ List.take h l = l[h] :: (List.drop (h + 1) l ++ List.take h l) := by rw [List.drop_eq_getElem_cons hh]; rfl
  have e2 : dst l h = (List.drop (h + 1) l ++ List.take h l).findIdx go9 + 1 := by
    unfold dst
    rw [e1, List.findIdx_cons, show go9 l[h] = false from decide_eq_false (fun q => q hp)]
    rfl
  have e3 : List.drop (nx l.length h) l ++ List.take (nx l.length h) l = (List.drop (h + 1) l ++ List.take h l) ++ [l[h]] := by
    unfold nx
    by_cases c : h + 1 = l.length
    · rw [if_pos c, List.drop_zero, List.take_zero, List.append_nil, List.drop_eq_nil_of_le (by omega), List.nil_append]
      conv => lhs; rw [← List.take_append_drop h l]
      rw [List.drop_eq_getElem_cons hh, List.drop_eq_nil_of_le (by omega)]
    · rw [if_neg c, List.take_succ_eq_append_getElem hh, ← List.append_assoc]
  have e4 : (List.drop (h + 1) l ++ List.take h l).findIdx go9 < (List.drop (h + 1) l ++ List.take h l).length := by
    rw [List.length_append, List.length_drop, List.length_take]; omega
  rw [e2]
  unfold dst
  rw [e3, List.findIdx_append, if_pos e4]
def tmR (l : List PlaceD) (h : Nat) : Nat := tm (l.map toT) h
theorem tmr_pin {l : List PlaceD} {z z' : Int} {n f : Nat} {x : PlaceD} (hu : UnR l) (hx : l[Int.toNat z]? = some x) (hp : x.xPins > 0) (h0 : 0 ≤ z) (hl : List.length l = n) (hz : z' = if z + 1 = (n : Int) then 0 else z + 1) (hf : tmR l (Int.toNat z) < f + 1) : tmR l (Int.toNat z') < f := by
  have hl2 : (l.map toT).length = n := by rw [List.length_map]; exact hl
  have e : Int.toNat z' = nx (l.map toT).length (Int.toNat z) := by
    unfold nx
    rw [hz, hl2]
    by_cases c : z + 1 = (n : Int)
    · rw [if_pos c, if_pos (by omega)]; rfl
    · rw [if_neg c, if_neg (by omega)]; omega
  have := dstq_next (map_at hx) hp hu
  rw [e]
  unfold tmR tm at hf ⊢
  omega
theorem tmr_touch {l : List PlaceD} {z z' : Int} {f : Nat} {x y : PlaceD} (hu : UnR l) (hx : l[Int.toNat z]? = some x) (hp : ¬ x.xPins > 0) (ht : x.xTouched = true) (hyp : y.xPins = x.xPins) (hyt : y.xTouched = false) (hf : tmR l (Int.toNat z) < f + 1) : tmR (List.set l (Int.toNat z) y) (Int.toNat z') < f := by
  unfold tmR at hf ⊢
  rw [List.map_set]
  have h1 := filt_set (fun p : placeT => go9 p && p.xtouched) (map_at hx) (by show (go9 (toT x) && x.xTouched) = true; rw [ht, Bool.and_true]; exact decide_eq_true hp) (y := toT y) (by show (go9 (toT y) && y.xTouched) = false; rw [hyt, Bool.and_false])
  have h2 := dstq_lt (unq_set (y := toT y) hu (map_at hx) hyp) (Int.toNat z')
  have h3 : (List.set (l.map toT) (Int.toNat z) (toT y)).length = (l.map toT).length := List.length_set
  rw [h3] at h2
  unfold tm at hf ⊢
  rw [h3]
  have h4 : tc (l.map toT) = tc (List.set (l.map toT) (Int.toNat z) (toT y)) + 1 := h1.symm
  rw [h4, Nat.add_mul, Nat.one_mul] at hf
  omega
end Go.Proofs.Ytkekaemfokmhdaa
