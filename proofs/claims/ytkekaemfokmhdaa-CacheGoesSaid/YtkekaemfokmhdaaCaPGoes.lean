/-
  A cache goes as the document's: step by step the same answers, calls and places.
  Conditions: none beyond each law's own.
-/
import Derived.Test.YtkekaemfokmhdaaCaR
import Derived.Test.YtkekaemfokmhdaaLGoes
namespace Go.Proofs.Ytkekaemfokmhdaa
set_option linter.unusedVariables false
set_option linter.unusedSimpArgs false
abbrev CT (l : List PlaceD) (z : Int) : CacheT := CacheT.mk (Ll.mk (l.map toT)) z
abbrev CD (l : List PlaceD) (z : Int) : CacheDT := CacheDT.mk (Ll.mk l) z
structure I (k n : Nat) (l : List PlaceD) (z : Int) : Prop where
  len : l.length = n
  z0 : 0 ≤ z
  z1 : z < (n : Int)
  dfl : ∀ p ∈ l, p.xDirty = true → p.xFull = true
  pins : ∀ p ∈ l, 0 ≤ p.xPins ∧ p.xPins ≤ (k : Int)
theorem I.more {k k' n : Nat} {l : List PlaceD} {z : Int} (h : I k n l z) (hk : k ≤ k') : I k' n l z :=
  ⟨h.len, h.z0, h.z1, h.dfl, fun p hp => by have := h.pins p hp; omega⟩
theorem I.mid {k k' n : Nat} {a c : List PlaceD} {x y : PlaceD} {z : Int} (h : I k n (a ++ x :: c) z) (hk : k ≤ k') (hd : y.xDirty = true → y.xFull = true) (hp : 0 ≤ y.xPins ∧ y.xPins ≤ (k' : Int)) : I k' n (a ++ y :: c) z := by
  refine ⟨by rw [← h.len]; simp, h.z0, h.z1, fun p hq => ?_, fun p hq => ?_⟩
  · rcases mem_mid.1 hq with e | e
    · rw [e]; exact hd
    · exact h.dfl p (mem_mid.2 (.inr e))
  · rcases mem_mid.1 hq with e | e
    · rw [e]; exact hp
    · have := h.pins p (mem_mid.2 (.inr e)); omega
def hitD (id : Int) (p : PlaceD) : Bool := p.xFull && decide (p.xId = id)
theorem hitD_t {id : Int} {p : PlaceD} : hitD id p = true ↔ p.xFull = true ∧ p.xId = id := by
  unfold hitD; rw [Bool.and_eq_true_iff, decide_eq_true_eq]
theorem split_map {l : List PlaceD} {a0 c0 : List placeT} {x0 : placeT} (h : l.map toT = a0 ++ x0 :: c0) : ∃ a x c, l = a ++ x :: c ∧ a0 = a.map toT ∧ x0 = toT x ∧ c0 = c.map toT := by
  obtain ⟨a, l2, e1, e2, e3⟩ := List.map_eq_append_iff.1 h
  obtain ⟨x, c, e4, e5, e6⟩ := List.map_eq_cons_iff.1 e3
  exact ⟨a, x, c, by rw [e1, e4], e2.symm, e5.symm, e6.symm⟩
theorem find_no {id : Int} : ∀ {q : List PlaceD} {k : Nat}, (∀ p ∈ q, hitD id p = false) → r10_Cache_find_L0 id q k = .inl ()
  | [], _, _ => by rw [r10_Cache_find_L0]
  | x :: q, k, h => by
    have hx := h x (.head _)
    have ih := find_no (id := id) (q := q) (k := k + 1) fun p hp => h p (.tail _ hp)
    rw [r10_Cache_find_L0]
    by_cases h1 : x.xFull = true
    · rw [if_pos h1, if_neg (fun h2 => by rw [hitD_t.2 ⟨h1, h2⟩] at hx; cases hx), ih]
    · rw [if_neg h1, ih]
theorem find_yes {id : Int} : ∀ {a c : List PlaceD} {x : PlaceD} {k : Nat}, (∀ p ∈ a, hitD id p = false) → hitD id x = true → r10_Cache_find_L0 id (a ++ x :: c) k = .inr ((k + a.length : Nat) : Int)
  | [], c, x, k, _, hx => by
    obtain ⟨h1, h2⟩ := hitD_t.1 hx
    rw [List.nil_append, r10_Cache_find_L0, if_pos h1, if_pos h2]; rfl
  | y :: a, c, x, k, h, hx => by
    have hy := h y (.head _)
    have ih := find_yes (id := id) (a := a) (c := c) (x := x) (k := k + 1) (fun p hp => h p (.tail _ hp)) hx
    rw [List.cons_append, r10_Cache_find_L0]
    have e : ((k + 1 + a.length : Nat) : Int) = ((k + (y :: a).length : Nat) : Int) := by rw [List.length_cons]; omega
    rw [e] at ih
    by_cases h1 : y.xFull = true
    · rw [if_pos h1, if_neg (fun h2 => by rw [hitD_t.2 ⟨h1, h2⟩] at hy; cases hy), ih]
    · rw [if_neg h1, ih]
theorem find_none {id : Int} {l : List PlaceD} {z : Int} {b : BackT} (h : ∀ p ∈ l.map toT, hit id p = false) : r10_Cache_find (CD l z) id b = -1 := by
  unfold r10_Cache_find
  show lp (r10_Cache_find_L0 id l 0) _ = _
  rw [find_no fun p hp => h (toT p) (List.mem_map.2 ⟨p, hp, rfl⟩)]; rfl
theorem find_some {id : Int} {a c : List PlaceD} {x : PlaceD} {z : Int} {b : BackT} (h : ∀ p ∈ a.map toT, hit id p = false) (hx : hit id (toT x) = true) : r10_Cache_find (CD (a ++ x :: c) z) id b = ((a.length : Nat) : Int) := by
  unfold r10_Cache_find
  show lp (r10_Cache_find_L0 id (a ++ x :: c) 0) _ = _
  rw [find_yes (fun p hp => h (toT p) (List.mem_map.2 ⟨p, hp, rfl⟩)) hx, Nat.zero_add]; rfl
theorem map_mid (a c : List PlaceD) (x : PlaceD) : (a ++ x :: c).map toT = a.map toT ++ toT x :: c.map toT := by rw [List.map_append, List.map_cons]
def pinD (x : PlaceD) : PlaceD := PlaceD.mk x.xFull x.xId (IntKind.i64.wrap (x.xPins + 1)) x.xBytes true x.xDirty x.xLsn
def newD (id : Int) (t : List UInt8) : PlaceD := PlaceD.mk true id 1 t true false 0
def zeroD : PlaceD := PlaceD.mk false 0 0 [] false false 0
def clD (x : PlaceD) : PlaceD := PlaceD.mk x.xFull x.xId x.xPins x.xBytes x.xTouched false x.xLsn
def decD (x : PlaceD) : PlaceD := PlaceD.mk x.xFull x.xId (IntKind.i64.wrap (x.xPins - 1)) x.xBytes x.xTouched x.xDirty x.xLsn
def putD (x : PlaceD) (t : List UInt8) (m : Nat) : PlaceD := PlaceD.mk x.xFull x.xId x.xPins t true true (if x.xDirty = true then max m x.xLsn else m)
def untD (x : PlaceD) : PlaceD := PlaceD.mk x.xFull x.xId x.xPins x.xBytes false x.xDirty x.xLsn
theorem newP_D (id : Int) (t : List UInt8) : newP id t = toT (newD id t) := by
  unfold newP toT newD
  rw [IntWalk.i64_in (0 + 1) (by omega)]; rfl
theorem back_told (a c : List PlaceD) (x : PlaceD) (z : Int) (b : BackT) (h : x.xDirty = true → x.xFull = true) : r10_Cache_back (CD (a ++ x :: c) z) ((a.length : Nat) : Int) b = if (wb b (toT x)).1 = 0 then (0, CD (a ++ clD x :: c) z, (wb b (toT x)).2) else ((wb b (toT x)).1, CD (a ++ x :: c) z, (wb b (toT x)).2) := by
  have hw : wb b (toT x) = if x.xDirty = true then (if ((r10_Back_Safe b : Nat) : Int) < ((x.xLsn : Nat) : Int) then (if (r10_Back_Force b x.xLsn).1 = 0 then r10_Back_Save (r10_Back_Force b x.xLsn).2 x.xId x.xBytes else r10_Back_Force b x.xLsn) else r10_Back_Save b x.xId x.xBytes) else (0, b) := rfl
  rw [hw]
  unfold r10_Cache_back
  simp only [bnd_eq, Int.toNat_natCast]
  rw [gd]
  by_cases d : x.xDirty = true
  · rw [if_pos (h d), if_pos d, if_pos d]
    by_cases s : ((r10_Back_Safe b : Nat) : Int) < ((x.xLsn : Nat) : Int)
    · rw [if_pos s, if_pos s]
      by_cases e1 : (r10_Back_Force b x.xLsn).1 = 0
      · rw [if_pos e1, if_pos e1, stt]; rfl
      · rw [if_neg e1, if_neg e1, if_neg e1]
    · rw [if_neg s, if_neg s, stt]; rfl
  · rw [if_neg d, if_neg d, if_pos rfl]
    have e : clD x = x := by
      cases x
      rename_i xD _
      unfold clD
      dsimp only at d ⊢
      rw [Bool.eq_false_iff.2 d]
    rw [e, ite_self]
theorem free0_hit {p0 : CacheDT} {b : BackT} : ∀ {a c : List PlaceD} {x : PlaceD} {f : Bool} {k : Nat}, (∀ p ∈ a, p.xFull = true) → x.xFull = false → r10_Cache_free_L0 p0 b (a ++ x :: c) f k = .inr (((k + a.length : Nat) : Int), 0, p0, b)
  | [], c, x, f, k, _, hx => by
    rw [List.nil_append, r10_Cache_free_L0, if_neg (by rw [hx]; decide)]; rfl
  | y :: a, c, x, f, k, h, hx => by
    have e : ((k + 1 + a.length : Nat) : Int) = ((k + (y :: a).length : Nat) : Int) := by rw [List.length_cons]; omega
    rw [List.cons_append, r10_Cache_free_L0, if_pos (h y (.head _)), free0_hit (fun p hp => h p (.tail _ hp)) hx, free0_hit (fun p hp => h p (.tail _ hp)) hx, ite_self, e]
theorem free0_all {p0 : CacheDT} {b : BackT} : ∀ {q : List PlaceD} {f : Bool} {k : Nat}, (∀ p ∈ q, p.xFull = true) → r10_Cache_free_L0 p0 b q f k = .inl (f && q.all fun p => decide (p.xPins > 0))
  | [], f, k, _ => by rw [r10_Cache_free_L0]; simp
  | y :: q, f, k, h => by
    rw [r10_Cache_free_L0, if_pos (h y (.head _)), free0_all (fun p hp => h p (.tail _ hp)), free0_all (fun p hp => h p (.tail _ hp)), List.all_cons]
    cases f with
    | true => rw [if_pos rfl, Bool.true_and]
    | false => rw [if_neg (by decide), Bool.false_and, Bool.false_and]
theorem free_L1 (p0 : CacheDT) (b : BackT) (n : Nat) (hn : List.length p0.xP.ls = n) : ∀ (f : Nat) (z : Int) (l : List PlaceD), UnP (l.map toT) → (∀ p ∈ l, p.xDirty = true → p.xFull = true) → 0 ≤ z → z < (n : Int) → l.length = n → tm (l.map toT) (Int.toNat z) < f →
    ∃ a x c z', turnF n f z (l.map toT) = (z', (a ++ x :: c).map toT, a.length) ∧ r10_Cache_free_L1 p0 b f z l = .inr (if (wb b (toT x)).1 = 0 then (((a.length : Nat) : Int), 0, CD (a ++ zeroD :: c) z', (wb b (toT x)).2) else (0, (wb b (toT x)).1, CD (a ++ x :: c) z', (wb b (toT x)).2)) ∧ (∀ p ∈ a ++ x :: c, ∃ q ∈ l, p.xFull = q.xFull ∧ p.xDirty = q.xDirty ∧ p.xPins = q.xPins) ∧ (a ++ x :: c).length = n ∧ 0 ≤ z' ∧ z' < (n : Int)
  | 0, z, l, _, _, _, _, _, h => by omega
  | f + 1, z, l, hu, hdf, h0, h1, hl, hf => by
    obtain ⟨a, x, c, e, ha, hx⟩ := split_at (l := l) (i := Int.toNat z) (by omega)
    have hget : l[Int.toNat z]? = some x := by rw [e, ← ha]; simp
    have hgetT : (l.map toT)[Int.toNat z]? = some (toT x) := map_at hget
    have hxT : List.getD (l.map toT) (Int.toNat z) default = toT x := by rw [List.getD_eq_getElem?_getD, hgetT]; rfl
    have hlT : (l.map toT).length = n := by rw [List.length_map]; exact hl
    have hb := remI_bd (z + 1) (n := n) (by omega)
    have hb2 := remI_nn (a := z + 1) (n := n) (by omega)
    have hnx : remI (z + 1) n = if z + 1 = (n : Int) then 0 else z + 1 := hand_next h0 h1
    by_cases c1 : x.xPins > 0
    · obtain ⟨a', x', c', z', k1, k2, k3⟩ := free_L1 p0 b n hn f (remI (z + 1) n) l hu hdf hb2 hb.2 hl (tm_pin hu hgetT c1 h0 hlT hnx hf)
      refine ⟨a', x', c', z', ?_, ?_, k3⟩
      · rw [turnF, hxT, if_pos (show (toT x).xpins > 0 from c1)]; exact k1
      · rw [r10_Cache_free_L1, bnd_eq, hx, if_pos c1, hn]; exact k2
    · by_cases c2 : x.xTouched = true
      · have e2 : List.set (l.map toT) (Int.toNat z) (unt (toT x)) = (List.set l (Int.toNat z) (untD x)).map toT := by rw [List.map_set]; rfl
        obtain ⟨a', x', c', z', k1, k2, k3, k4⟩ := free_L1 p0 b n hn f (remI (z + 1) n) (List.set l (Int.toNat z) (untD x)) (by rw [← e2]; exact un_set hu hgetT rfl) (fun p hp => by
          rcases List.mem_or_eq_of_mem_set hp with r | r
          · exact hdf p r
          · rw [r]; exact hdf x (List.mem_of_getElem? hget)) hb2 hb.2 (by rw [List.length_set]; exact hl) (by rw [← e2]; exact tm_touch (y := unt (toT x)) hu hgetT c1 c2 rfl rfl hf)
        refine ⟨a', x', c', z', ?_, ?_, fun p hp => ?_, k4⟩
        · rw [turnF, hxT, if_neg (show ¬ (toT x).xpins > 0 from c1), if_pos (show (toT x).xtouched = true from c2), e2]; exact k1
        · rw [r10_Cache_free_L1, bnd_eq, hx, if_neg c1, if_pos c2, hn]; exact k2
        · obtain ⟨q, hq, g⟩ := k3 p hp
          rcases List.mem_or_eq_of_mem_set hq with r | r
          · exact ⟨q, r, g⟩
          · rw [r] at g; exact ⟨x, List.mem_of_getElem? hget, g⟩
      · have hz : z = ((a.length : Nat) : Int) := by omega
        refine ⟨a, x, c, remI (z + 1) n, ?_, ?_, fun p hp => ⟨p, by rw [e]; exact hp, rfl, rfl, rfl⟩, by rw [← e]; exact hl, hb2, hb.2⟩
        · rw [turnF, hxT, if_neg (show ¬ (toT x).xpins > 0 from c1), if_neg (show ¬ (toT x).xtouched = true from c2), ha, e]
        · rw [r10_Cache_free_L1, bnd_eq, hx, if_neg c1, if_neg c2, hn, e]
          rw [show r10_Cache_back (CacheDT.mk (Ll.mk (a ++ x :: c)) (remI (z + 1) n)) z b = r10_Cache_back (CD (a ++ x :: c) (remI (z + 1) n)) ((a.length : Nat) : Int) b by rw [← hz], back_told a c x _ b (hdf x (List.mem_of_getElem? hget)), bnd_eq, ha.symm]
          by_cases w : (wb b (toT x)).1 = 0
          · rw [if_pos w, if_pos w]
            dsimp only
            rw [if_pos rfl, stt, hz]; rfl
          · rw [if_neg w, if_neg w]
            dsimp only
            rw [if_neg w]
/-! ### the methods, side by side -/
theorem pin_same {k n : Nat} {l : List PlaceD} {z : Int} (h : I k n l z) (hk : k ≤ 1000) (id : Int) (b : BackT) (hn : 1 ≤ n) : ∃ t e l' z' b', cache_Cache_Pin (CT l z) id b = (t, e, CT l' z', b') ∧ r10_Cache_Pin (CD l z) id b = (t, e, CD l' z', b') ∧ I (k + 1) n l' z' := by
  have hlen := h.len
  have hlT : (l.map toT).length = n := by rw [List.length_map]; exact hlen
  rcases pin_cases id b (l := l.map toT) (z := z) (by omega) h.z0 (by rw [hlT]; exact h.z1) with ⟨a0, x0, c0, e, u1, u2, u3⟩ | ⟨u0, ⟨a0, x0, c0, e, u1, u2, u3⟩ | ⟨u1, ⟨u2, u3⟩ | ⟨u2, a0, x0, c0, z', u3, u4, u5, u6, u7, u8⟩⟩⟩
  · obtain ⟨a, x, c, rfl, rfl, rfl, rfl⟩ := split_map e
    have hp := h.pins x (mem_mid.2 (.inl rfl))
    have hd := h.dfl x (mem_mid.2 (.inl rfl))
    have hw : IntKind.i64.wrap (x.xPins + 1) = x.xPins + 1 := IntWalk.i64_in _ (by omega)
    refine ⟨x.xBytes, 0, a ++ pinD x :: c, z, b, ?_, ?_, h.mid (by omega) hd (by show 0 ≤ IntKind.i64.wrap (x.xPins + 1) ∧ IntKind.i64.wrap (x.xPins + 1) ≤ _; rw [hw]; omega)⟩
    · rw [u3, CT, map_mid]; rfl
    · unfold r10_Cache_Pin
      rw [bnd_eq, find_some u1 u2, if_pos (by omega)]
      simp only [bnd_eq, Int.toNat_natCast, gd, stt]
      rfl
  · obtain ⟨a, x, c, rfl, rfl, rfl, rfl⟩ := split_map e
    have hfr : r10_Cache_free (CD (a ++ x :: c) z) b = (((a.length : Nat) : Int), 0, CD (a ++ x :: c) z, b) := by
      unfold r10_Cache_free
      show lp (r10_Cache_free_L0 (CD (a ++ x :: c) z) b (a ++ x :: c) true 0) _ = _
      rw [free0_hit (fun p hp => u1 (toT p) (List.mem_map.2 ⟨p, hp, rfl⟩)) u2, Nat.zero_add]; rfl
    unfold r10_Cache_Pin
    rw [bnd_eq, find_none u0, if_neg (by decide), bnd_eq, hfr]
    dsimp only
    rw [if_pos rfl, bnd_eq]
    rw [u3]
    unfold ld
    by_cases g : (r10_Back_Load b id).2.1 = 0
    · refine ⟨(r10_Back_Load b id).1, 0, a ++ newD id (r10_Back_Load b id).1 :: c, z, (r10_Back_Load b id).2.2, ?_, ?_, h.mid (by omega) (fun f => by cases f) (by show (0 : Int) ≤ 1 ∧ (1 : Int) ≤ _; omega)⟩
      · rw [if_pos g, newP_D, CT, map_mid]
      · rw [if_pos g, Int.toNat_natCast, stt]; rfl
    · refine ⟨[], (r10_Back_Load b id).2.1, a ++ x :: c, z, (r10_Back_Load b id).2.2, ?_, ?_, h.more (by omega)⟩
      · rw [if_neg g]
      · rw [if_neg g]
  · have hall : (l.all fun p => decide (p.xPins > 0)) = true := List.all_eq_true.2 fun p hp => decide_eq_true (by
      have := h.pins p hp
      have : p.xPins ≠ 0 := fun q => u2 ⟨toT p, List.mem_map.2 ⟨p, hp, rfl⟩, q⟩
      omega)
    have hfr : r10_Cache_free (CD l z) b = (0, 100, CD l z, b) := by
      unfold r10_Cache_free
      show lp (r10_Cache_free_L0 (CD l z) b l true 0) _ = _
      rw [free0_all fun p hp => u1 (toT p) (List.mem_map.2 ⟨p, hp, rfl⟩), hall, lp_inl]; rfl
    refine ⟨[], 100, l, z, b, u3, ?_, h.more (by omega)⟩
    unfold r10_Cache_Pin
    rw [bnd_eq, find_none u0, if_neg (by decide), bnd_eq, hfr]
    dsimp only
    rw [if_neg (by decide)]
  · have hall : (l.all fun p => decide (p.xPins > 0)) = false := Bool.eq_false_iff.2 fun q => by
      obtain ⟨p0, hp0, e0⟩ := u2
      obtain ⟨p, hp, rfl⟩ := List.mem_map.1 hp0
      have := of_decide_eq_true (List.all_eq_true.1 q p hp)
      have e1 : p.xPins = 0 := e0
      omega
    obtain ⟨a, x, c, z2, k1, k2, k3, k4, k5, k6⟩ := free_L1 (CD l z) b n hlen (tm (l.map toT) (Int.toNat z) + 1) z l u2 h.dfl h.z0 h.z1 hlen (Nat.lt_succ_self _)
    rw [hlT, k1, map_mid] at u3
    injection u3 with e1 e2
    injection e2 with e2 e3
    obtain ⟨e4, e5⟩ := List.append_inj e2 (by rw [List.length_map]; exact e3)
    injection e5 with e5 e6
    subst e1; subst e4; subst e5; subst e6
    have hI : I k n (a ++ x :: c) z2 := ⟨k4, k5, k6, fun p hp => by
      obtain ⟨q, hq, g1, g2, g3⟩ := k3 p hp
      rw [g1, g2]; exact h.dfl q hq, fun p hp => by
      obtain ⟨q, hq, g1, g2, g3⟩ := k3 p hp
      rw [g3]; exact h.pins q hq⟩
    have hfr : r10_Cache_free (CD l z) b = if (wb b (toT x)).1 = 0 then (((a.length : Nat) : Int), 0, CD (a ++ zeroD :: c) z2, (wb b (toT x)).2) else (0, (wb b (toT x)).1, CD (a ++ x :: c) z2, (wb b (toT x)).2) := by
      unfold r10_Cache_free
      show lp (r10_Cache_free_L0 (CD l z) b l true 0) _ = _
      rw [free0_all fun p hp => u1 (toT p) (List.mem_map.2 ⟨p, hp, rfl⟩), hall, lp_inl, Bool.and_false, if_neg (by decide)]
      show lp (r10_Cache_free_L1 (CD l z) b (tm (l.map toT) (Int.toNat z) + 1) z l) _ = _
      rw [k2, lp_inr]
    unfold r10_Cache_Pin
    rw [bnd_eq, find_none u0, if_neg (by decide), bnd_eq, hfr, u4]
    unfold fin2
    by_cases w : (wb b (toT x)).1 = 0
    · rw [if_pos w, if_pos w]
      dsimp only
      rw [if_pos rfl, bnd_eq]
      unfold ld
      have hI2 : I (k + 1) n (a ++ zeroD :: c) z2 := hI.mid (by omega) (fun f => by cases f) (by show (0 : Int) ≤ 0 ∧ (0 : Int) ≤ _; omega)
      by_cases g : (r10_Back_Load (wb b (toT x)).2 id).2.1 = 0
      · refine ⟨(r10_Back_Load (wb b (toT x)).2 id).1, 0, a ++ newD id (r10_Back_Load (wb b (toT x)).2 id).1 :: c, z2, (r10_Back_Load (wb b (toT x)).2 id).2.2, ?_, ?_, hI.mid (by omega) (fun f => by cases f) (by show (0 : Int) ≤ 1 ∧ (1 : Int) ≤ _; omega)⟩
        · rw [if_pos g, newP_D, CT, map_mid]
        · rw [if_pos g, Int.toNat_natCast, stt]; rfl
      · refine ⟨[], (r10_Back_Load (wb b (toT x)).2 id).2.1, a ++ zeroD :: c, z2, (r10_Back_Load (wb b (toT x)).2 id).2.2, ?_, ?_, hI2⟩
        · rw [if_neg g, CT, map_mid]; rfl
        · rw [if_neg g]
    · refine ⟨[], (wb b (toT x)).1, a ++ x :: c, z2, (wb b (toT x)).2, ?_, ?_, hI.more (by omega)⟩
      · rw [if_neg w, CT, map_mid]
      · rw [if_neg w]
        dsimp only
        rw [if_neg w]
theorem unpin_same {k n : Nat} {l : List PlaceD} {z : Int} (h : I k n l z) (hk : k ≤ 1000) (id : Int) (b : BackT) : ∃ e l', cache_Cache_Unpin (CT l z) id b = (e, CT l' z, b) ∧ r10_Cache_Unpin (CD l z) id b = (e, CD l' z, b) ∧ I (k + 1) n l' z := by
  rcases unpin_cases (l.map toT) z id b with ⟨u1, u2⟩ | ⟨a0, x0, c0, e, u1, u2, u3⟩
  · refine ⟨5, l, u2, ?_, h.more (by omega)⟩
    unfold r10_Cache_Unpin
    rw [bnd_eq, find_none u1, if_pos (by decide)]
  · obtain ⟨a, x, c, rfl, rfl, rfl, rfl⟩ := split_map e
    have hp := h.pins x (mem_mid.2 (.inl rfl))
    have hd := h.dfl x (mem_mid.2 (.inl rfl))
    have hw : IntKind.i64.wrap (x.xPins - 1) = x.xPins - 1 := IntWalk.i64_in _ (by omega)
    have hr : r10_Cache_Unpin (CD (a ++ x :: c) z) id b = if x.xPins = 0 then (5, CD (a ++ x :: c) z, b) else (0, CD (a ++ decD x :: c) z, b) := by
      unfold r10_Cache_Unpin
      rw [bnd_eq, find_some u1 u2, if_neg (by omega)]
      simp only [bnd_eq, Int.toNat_natCast, gd, stt]
      rfl
    rcases u3 with ⟨u3, u4⟩ | ⟨u3, u4⟩
    · have u3' : x.xPins > 0 := u3
      refine ⟨0, a ++ decD x :: c, ?_, by rw [hr, if_neg (by omega)], h.mid (by omega) hd (by show 0 ≤ IntKind.i64.wrap (x.xPins - 1) ∧ IntKind.i64.wrap (x.xPins - 1) ≤ _; rw [hw]; omega)⟩
      rw [u4, CT, map_mid]; rfl
    · have u3' : ¬ x.xPins > 0 := u3
      exact ⟨5, _, u4, by rw [hr, if_pos (by omega)], h.more (by omega)⟩
theorem put_same {k n : Nat} {l : List PlaceD} {z : Int} (h : I k n l z) (id : Int) (t : List UInt8) (m : Nat) (b : BackT) : ∃ e l', cache_Cache_Put (CT l z) id t m b = (e, CT l' z, b) ∧ r10_Cache_Put (CD l z) id t m b = (e, CD l' z, b) ∧ I (k + 1) n l' z := by
  rcases put_cases (l.map toT) z id t m b with ⟨u1, u2⟩ | ⟨a0, x0, c0, e, u1, u2, u3⟩
  · refine ⟨5, l, u2, ?_, h.more (by omega)⟩
    unfold r10_Cache_Put
    rw [bnd_eq, find_none u1, if_pos (by decide)]
  · obtain ⟨a, x, c, rfl, rfl, rfl, rfl⟩ := split_map e
    have hp := h.pins x (mem_mid.2 (.inl rfl))
    have hr : r10_Cache_Put (CD (a ++ x :: c) z) id t m b = if x.xPins = 0 then (5, CD (a ++ x :: c) z, b) else (0, CD (a ++ putD x t m :: c) z, b) := by
      unfold r10_Cache_Put
      rw [bnd_eq, find_some u1 u2, if_neg (by omega)]
      by_cases d : x.xDirty = true
      · simp only [bnd_eq, Int.toNat_natCast, gd, stt, if_pos d, putD]
      · simp only [bnd_eq, Int.toNat_natCast, gd, stt, if_neg d, putD]
    rcases u3 with ⟨u3, u4⟩ | ⟨u3, u4⟩
    · have u3' : x.xPins > 0 := u3
      refine ⟨0, a ++ putD x t m :: c, ?_, by rw [hr, if_neg (by omega)], h.mid (by omega) (fun _ => (hit_t.1 u2).1) (by show 0 ≤ x.xPins ∧ x.xPins ≤ _; omega)⟩
      rw [u4, CT, map_mid]; rfl
    · have u3' : ¬ x.xPins > 0 := u3
      exact ⟨5, _, u4, by rw [hr, if_pos (by omega)], h.more (by omega)⟩
theorem flush_step (p0 : CacheT) (m : Nat) (a c : List placeT) (x : placeT) (b : BackT) : cache_Cache_Flush_L0 p0 (m + 1) a.length (a ++ x :: c) b = if (wb b x).1 = 0 then cache_Cache_Flush_L0 p0 m (a.length + 1) (a ++ placeT.mk x.xfull x.xid (Ll.mk x.xbytes.ls) x.xpins x.xtouched false x.xlsn :: c) (wb b x).2 else .inr ((wb b x).1, CacheT.mk (Ll.mk (a ++ x :: c)) p0.xhand, (wb b x).2) := by
  rw [cache_Cache_Flush_L0]
  simp only [bnd_eq]
  rw [gd]
  unfold wb
  by_cases d : x.xdirty = true
  · rw [if_pos d, if_pos d, stt]
    by_cases s : ((r10_Back_Safe b : Nat) : Int) < ((x.xlsn : Nat) : Int)
    · rw [if_pos s, if_pos s]
      by_cases e1 : (r10_Back_Force b x.xlsn).1 = 0
      · rw [if_pos e1, if_pos e1, lpS_inl]
      · rw [if_neg e1, if_neg e1, if_neg e1, lpS_inr]
    · rw [if_neg s, if_neg s, lpS_inl]
  · rw [if_neg d, if_neg d, if_pos rfl]
    have e : placeT.mk x.xfull x.xid (Ll.mk x.xbytes.ls) x.xpins x.xtouched false x.xlsn = x := by
      cases x
      dsimp only at d ⊢
      rw [Bool.eq_false_iff.2 d]
    rw [e]
theorem flush_go (p0 : CacheT) {k n : Nat} {z : Int} (hz : p0.xhand = z) : ∀ (q pre : List PlaceD) (b : BackT), I k n (pre ++ q) z → ∃ e l' b', lp (cache_Cache_Flush_L0 p0 q.length pre.length ((pre ++ q).map toT) b) (fun s => (0, CacheT.mk (Ll.mk s.1) z, s.2)) = (e, CT l' z, b') ∧ lp (r10_Cache_Flush_L0 q.length pre.length (pre ++ q) z b) (fun s => (0, CacheDT.mk (Ll.mk s.1) s.2.1, s.2.2)) = (e, CD l' z, b') ∧ I k n l' z
  | [], pre, b, h => ⟨0, pre ++ [], b, rfl, rfl, h⟩
  | x :: q, pre, b, h => by
    have hd := h.dfl x (mem_mid.2 (.inl rfl))
    have hp := h.pins x (mem_mid.2 (.inl rfl))
    have ha : pre.length = (pre.map toT).length := by rw [List.length_map]
    rw [List.length_cons, map_mid, r10_Cache_Flush_L0, bnd_eq]
    rw [show r10_Cache_back (CacheDT.mk (Ll.mk (pre ++ x :: q)) z) ((pre.length : Nat) : Int) b = _ from back_told pre q x z b hd]
    rw [ha, flush_step, ← ha]
    by_cases w : (wb b (toT x)).1 = 0
    · rw [if_pos w, if_pos w]
      dsimp only
      rw [if_pos rfl]
      have hI : I k n (pre ++ clD x :: q) z := h.mid (Nat.le_refl _) (fun f => by cases f) hp
      have e : pre ++ clD x :: q = (pre ++ [clD x]) ++ q := by simp
      have e2 : pre.length + 1 = (pre ++ [clD x]).length := by simp
      rw [show pre.map toT ++ placeT.mk (toT x).xfull (toT x).xid (Ll.mk (toT x).xbytes.ls) (toT x).xpins (toT x).xtouched false (toT x).xlsn :: q.map toT = (pre ++ clD x :: q).map toT by rw [map_mid]; rfl, e2, e]
      rw [e] at hI
      exact flush_go p0 hz q (pre ++ [clD x]) _ hI
    · rw [if_neg w, if_neg w]
      dsimp only
      rw [if_neg w, lp_inr, lp_inr, hz]
      exact ⟨_, pre ++ x :: q, _, by rw [CT, map_mid], rfl, h⟩
theorem flush_same {k n : Nat} {l : List PlaceD} {z : Int} (h : I k n l z) (b : BackT) : ∃ e l' b', cache_Cache_Flush (CT l z) b = (e, CT l' z, b') ∧ r10_Cache_Flush (CD l z) b = (e, CD l' z, b') ∧ I (k + 1) n l' z := by
  obtain ⟨e, l', b', h1, h2, h3⟩ := flush_go (CT l z) rfl l [] b h
  refine ⟨e, l', b', ?_, h2, h3.more (by omega)⟩
  rw [← h1]
  unfold cache_Cache_Flush
  show lp (cache_Cache_Flush_L0 (CT l z) (l.map toT).length 0 (l.map toT) b) _ = _
  rw [List.length_map]; rfl
/-! ### what is dirty -/
def insI (v : Int) : List Int → List Int
  | [] => [v]
  | y :: m => if y < v then y :: insI v m else v :: y :: m
theorem insI_perm (v : Int) : ∀ m : List Int, (insI v m).Perm (v :: m)
  | [] => List.Perm.refl _
  | y :: m => by
    unfold insI
    split
    · exact ((insI_perm v m).cons y).trans (List.Perm.swap v y m)
    · exact List.Perm.refl _
theorem insI_pw (v : Int) : ∀ m : List Int, m.Pairwise (fun x y => x ≤ y) → (insI v m).Pairwise (fun x y => x ≤ y)
  | [], _ => List.pairwise_singleton _ _
  | y :: m, h => by
    obtain ⟨h1, h2⟩ := List.pairwise_cons.1 h
    unfold insI
    split
    · next c =>
      refine List.pairwise_cons.2 ⟨fun x hx => ?_, insI_pw v m h2⟩
      rcases List.mem_cons.1 ((insI_perm v m).mem_iff.1 hx) with e | e
      · omega
      · exact h1 x e
    · next c =>
      refine List.pairwise_cons.2 ⟨fun x hx => ?_, h⟩
      rcases List.mem_cons.1 hx with e | e
      · omega
      · have := h1 x e; omega
theorem dirty_L1 (x : PlaceD) : ∀ (m : List Int) (k : Nat), ∃ j, r10_Cache_Dirty_L1 x m k = k + j ∧ (List.take j m ++ [x.xId]) ++ List.drop j m = insI x.xId m
  | [], k => ⟨0, by rw [r10_Cache_Dirty_L1]; rfl, rfl⟩
  | y :: m, k => by
    rw [r10_Cache_Dirty_L1]
    unfold insI
    by_cases c : y < x.xId
    · obtain ⟨j, h1, h2⟩ := dirty_L1 x m (k + 1)
      rw [if_pos c, if_pos c]
      exact ⟨j + 1, by rw [h1]; omega, by rw [List.take_succ_cons, List.drop_succ_cons, ← h2]; simp⟩
    · rw [if_neg c, if_neg c]
      exact ⟨0, rfl, rfl⟩
def dids (l : List PlaceD) : List Int := (l.filter fun p => p.xDirty).map fun p => p.xId
theorem dirtyR : ∀ (l : List PlaceD) (m : List Int), (∀ p ∈ l, p.xDirty = true → p.xFull = true) → m.Pairwise (fun x y => x ≤ y) → (r10_Cache_Dirty_L0 l m).Pairwise (fun x y => x ≤ y) ∧ (r10_Cache_Dirty_L0 l m).Perm (m ++ dids l)
  | [], m, _, hm => by
    rw [r10_Cache_Dirty_L0]
    exact ⟨hm, by unfold dids; simp⟩
  | x :: l, m, h, hm => by
    have h2 : ∀ p ∈ l, p.xDirty = true → p.xFull = true := fun p hp => h p (.tail _ hp)
    rw [r10_Cache_Dirty_L0]
    by_cases d : x.xDirty = true
    · have hd : dids (x :: l) = x.xId :: dids l := by unfold dids; rw [List.filter_cons, if_pos d, List.map_cons]
      obtain ⟨j, e1, e2⟩ := dirty_L1 x m 0
      rw [if_pos (h x (.head _) d), if_pos d, hd]
      simp only [bnd_eq]
      rw [e1, Nat.zero_add, e2]
      obtain ⟨k1, k2⟩ := dirtyR l (insI x.xId m) h2 (insI_pw _ m hm)
      refine ⟨k1, k2.trans ?_⟩
      exact ((insI_perm x.xId m).append_right _).trans List.perm_middle.symm
    · have hd : dids (x :: l) = dids l := by unfold dids; rw [List.filter_cons, if_neg d]
      rw [hd, if_neg d, ite_self]
      exact dirtyR l m h2 hm
theorem dirtyP : ∀ (l : List PlaceD) (m : List Int), cache_Cache_Dirty_L0 (l.map toT) m = m ++ dids l
  | [], m => by rw [List.map_nil, cache_Cache_Dirty_L0]; unfold dids; simp
  | x :: l, m => by
    rw [List.map_cons, cache_Cache_Dirty_L0]
    by_cases d : x.xDirty = true
    · have hd : dids (x :: l) = x.xId :: dids l := by unfold dids; rw [List.filter_cons, if_pos d, List.map_cons]
      rw [if_pos (show (toT x).xdirty = true from d), dirtyP l, hd]; simp [toT]
    · have hd : dids (x :: l) = dids l := by unfold dids; rw [List.filter_cons, if_neg d]
      rw [if_neg (show ¬ (toT x).xdirty = true from d), dirtyP l, hd]
theorem dirty_same {k n : Nat} {l : List PlaceD} {z : Int} (h : I k n l z) (b : BackT) : cache_Cache_Dirty (CT l z) b = r10_Cache_Dirty (CD l z) b := by
  obtain ⟨k1, k2⟩ := dirtyR l [] h.dfl List.Pairwise.nil
  show srtI (cache_Cache_Dirty_L0 (l.map toT) []) = r10_Cache_Dirty_L0 l []
  rw [dirtyP]
  unfold srtI
  refine List.Perm.eq_of_pairwise (le := fun x y : Int => x ≤ y) (fun x y _ _ h1 h2 => Int.le_antisymm h1 h2) ?_ k1 ((List.mergeSort_perm _ _).trans k2.symm)
  have hp := List.pairwise_mergeSort (le := fun x y : Int => decide (x ≤ y)) (fun a b c h1 h2 => decide_eq_true (Int.le_trans (of_decide_eq_true h1) (of_decide_eq_true h2))) (fun a b => by rcases Int.le_total a b with h | h <;> simp [h]) ([] ++ dids l)
  exact hp.imp fun h => of_decide_eq_true h
/-! ### what a law compares -/
theorem same_L0 (p0 : CacheT) (p2 : CacheDT) (b b2 : BackT) (r : List Int) : ∀ (q k : Nat) (l : List Int), (∀ j, k ≤ j → List.getD l j default = List.getD r j default) → w10_same_L0 p0 p2 b b2 r q k l = .inl ()
  | 0, _, _, _ => by rw [w10_same_L0]
  | q + 1, k, l, h => by
    rw [w10_same_L0, bnd_eq, bnd_eq, if_pos (h k (Nat.le_refl _))]
    refine same_L0 p0 p2 b b2 r q (k + 1) _ fun j hj => ?_
    rw [← h j (by omega), List.getD_eq_getElem?_getD, List.getD_eq_getElem?_getD, List.getElem?_set_ne (by omega)]
theorem same_L1 (p0 : CacheT) (p2 : CacheDT) (b b2 : BackT) : ∀ (q pre : List CallD), b2.xCalls = pre ++ q → w10_same_L1 p0 p2 b b2 q pre.length = .inl ()
  | [], _, _ => by rw [w10_same_L1]
  | x :: q, pre, e => by
    rw [w10_same_L1, bnd_eq, e, gd, if_pos ⟨rfl, rfl, rfl, rfl⟩]
    have e2 : pre.length + 1 = (pre ++ [x]).length := by simp
    rw [e2]
    exact same_L1 p0 p2 b b2 q (pre ++ [x]) (by rw [e]; simp)
theorem same_L3 (p0 : CacheT) (b : BackT) (id : Int) : ∀ (l : List PlaceD) (f : Bool), w10_same_L3 p0 b id l f = (f || (l.map toT).any (hit id))
  | [], f => by rw [w10_same_L3]; simp
  | x :: l, f => by
    rw [w10_same_L3, List.map_cons, List.any_cons, same_L3 p0 b id l, same_L3 p0 b id l, same_L3 p0 b id l]
    have hx : hit id (toT x) = (x.xFull && decide (x.xId = id)) := rfl
    rw [hx]
    cases f <;> cases x.xFull <;> simp
theorem same_L2 (l : List PlaceD) (z : Int) (p2 : CacheDT) (b : BackT) (hp : p2.xP.ls = l) : ∀ (q : Nat) (id : Int), w10_same_L2 (CT l z) p2 b q id = .inl ()
  | 0, _ => by rw [w10_same_L2]
  | q + 1, id => by
    rw [w10_same_L2]
    split
    · rw [bnd_eq, bnd_eq, has_told, hp, same_L3, Bool.false_or, if_pos rfl]
      exact same_L2 l z p2 b hp q (id + 1)
    · rfl
theorem same_true {k n : Nat} {l : List PlaceD} {z : Int} (h : I k n l z) (b : BackT) : w10_same (CT l z) (CD l z) b b = true := by
  unfold w10_same
  rw [bnd_eq, bnd_eq, dirty_same h b, if_pos rfl, if_pos rfl, if_pos rfl, same_L0 _ _ _ _ _ _ _ _ (fun j _ => rfl), lp_inl]
  rw [show w10_same_L1 (CT l z) (CD l z) b b b.xCalls 0 = .inl () from same_L1 _ _ b b b.xCalls [] rfl, lp_inl, same_L2 l z (CD l z) b rfl, lp_inl]
theorem bnd_to {α β : Type} {x y : α} {f : α → β} {r : β} (h : x = y) (h2 : f y = r) : bnd x f = r := by rw [h]; exact h2
theorem goes_loop (r : Bool) (n : Nat) (hn : 1 ≤ n) : ∀ (ops : List OpD) (k : Nat) (l : List PlaceD) (z : Int) (b : BackT), k + ops.length ≤ 1000 → I k n l z → w10_CacheGoes_L0 r ops l z (l.map toT) z b b = .inl ()
  | [], _, _, _, _, _, _ => by rw [w10_CacheGoes_L0]
  | o :: ops, k, l, z, b, hk, h => by
    simp only [List.length_cons] at hk
    rw [w10_CacheGoes_L0]
    by_cases c0 : o.xDo = 0
    · obtain ⟨t, e, l', z', b', h1, h2, h3⟩ := pin_same h (by omega) o.xN b hn
      refine bnd_to (y := (true, l', z', l'.map toT, z', b', b')) ?_ ?_
      · rw [if_pos c0, bnd_eq, bnd_eq, h1, h2]
        dsimp only
        rw [if_pos rfl, bnd_eq, decide_eq_true rfl]
      · dsimp only
        rw [bnd_eq, if_pos rfl, bnd_eq, same_true h3 b', if_pos rfl]
        exact goes_loop r n hn ops (k + 1) l' z' b' (by omega) h3
    · by_cases c1 : o.xDo = 1
      · obtain ⟨e, l', h1, h2, h3⟩ := unpin_same h (by omega) o.xN b
        refine bnd_to (y := (true, l', z, l'.map toT, z, b, b)) ?_ ?_
        · rw [if_neg c0, if_pos c1, bnd_eq, bnd_eq, h1, h2]
          dsimp only
          rw [decide_eq_true rfl]
        · dsimp only
          rw [bnd_eq, if_pos rfl, bnd_eq, same_true h3 b, if_pos rfl]
          exact goes_loop r n hn ops (k + 1) l' z b (by omega) h3
      · by_cases c2 : o.xDo = 2
        · obtain ⟨e, l', h1, h2, h3⟩ := put_same h o.xN o.xText o.xLsn b
          refine bnd_to (y := (true, l', z, l'.map toT, z, b, b)) ?_ ?_
          · rw [if_neg c0, if_neg c1, if_pos c2, bnd_eq, bnd_eq, h1, h2]
            dsimp only
            rw [decide_eq_true rfl]
          · dsimp only
            rw [bnd_eq, if_pos rfl, bnd_eq, same_true h3 b, if_pos rfl]
            exact goes_loop r n hn ops (k + 1) l' z b (by omega) h3
        · by_cases c3 : o.xDo = 3
          · obtain ⟨e, l', b', h1, h2, h3⟩ := flush_same h b
            refine bnd_to (y := (true, l', z, l'.map toT, z, b', b')) ?_ ?_
            · rw [if_neg c0, if_neg c1, if_neg c2, if_pos c3, bnd_eq, bnd_eq, h1, h2]
              dsimp only
              rw [decide_eq_true rfl]
            · dsimp only
              rw [bnd_eq, if_pos rfl, bnd_eq, same_true h3 b', if_pos rfl]
              exact goes_loop r n hn ops (k + 1) l' z b' (by omega) h3
          · have h3 : I (k + 1) n l z := h.more (by omega)
            by_cases c4 : o.xDo = 4
            · refine bnd_to (y := (true, l, z, l.map toT, z, BackT.mk b.xPages (max b.xLog o.xLsn) b.xCalls b.xLeft, BackT.mk b.xPages (max b.xLog o.xLsn) b.xCalls b.xLeft)) ?_ ?_
              · rw [if_neg c0, if_neg c1, if_neg c2, if_neg c3, if_pos c4]
              · dsimp only
                rw [bnd_eq, if_pos rfl, bnd_eq, same_true h3 _, if_pos rfl]
                exact goes_loop r n hn ops (k + 1) l z _ (by omega) h3
            · refine bnd_to (y := (true, l, z, l.map toT, z, b, b)) ?_ ?_
              · rw [if_neg c0, if_neg c1, if_neg c2, if_neg c3, if_neg c4]
              · dsimp only
                rw [bnd_eq, if_pos rfl, bnd_eq, same_true h3 _, if_pos rfl]
                exact goes_loop r n hn ops (k + 1) l z _ (by omega) h3
theorem T_CacheGoes (p0 p1 : Int) (l : List OpD) : w10_CacheGoes p0 p1 l = true := by
  unfold w10_CacheGoes
  rw [bnd_eq, bnd_eq, live_true]
  by_cases c1 : p0 < 1
  · rw [if_pos c1]
  · rw [if_neg c1]
    by_cases c2 : p0 > 64
    · rw [if_pos c2]
    · rw [if_neg c2, bnd_eq]
      by_cases c3 : ((l.length : Nat) : Int) > 200
      · rw [if_pos c3]
      · rw [if_neg c3]
        have hI : I 0 (Int.toNat p0) (List.replicate (Int.toNat p0) zeroD) 0 := by
          refine ⟨List.length_replicate, by omega, by omega, ?_, ?_⟩
          · intro p hp hf; rw [(List.mem_replicate.1 hp).2] at hf; cases hf
          · intro p hp; rw [(List.mem_replicate.1 hp).2]; exact ⟨Int.le_refl _, Int.le_refl _⟩
        have hm : (List.replicate (Int.toNat p0) zeroD).map toT = List.replicate (Int.toNat p0) (placeT.mk false 0 (Ll.mk ([])) 0 false false 0) := by rw [List.map_replicate]; rfl
        have := goes_loop true (Int.toNat p0) (by omega) l 0 _ 0 (r10_NewBack 6 p1) (by omega) hI
        rw [hm] at this
        rw [show (PlaceD.mk false 0 0 ([] : List UInt8) false false 0) = zeroD from rfl, this, lp_inl]
end Go.Proofs.Ytkekaemfokmhdaa
