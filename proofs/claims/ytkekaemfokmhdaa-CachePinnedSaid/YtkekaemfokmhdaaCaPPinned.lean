/-
  A page that is pinned stays at hand; there are never more at hand than places.
  Conditions: none beyond each law's own.
-/
import Derived.Test.YtkekaemfokmhdaaCaN
import Derived.Test.YtkekaemfokmhdaaLPinned
namespace Go.Proofs.Ytkekaemfokmhdaa
set_option linter.unusedVariables false
set_option linter.unusedSimpArgs false
abbrev pg (pn : List Int) (i : Nat) : Int := List.getD pn i default
theorem pg_set {pn : List Int} {i j : Nat} {v : Int} (hi : i < pn.length) : pg (List.set pn i v) j = if j = i then v else pg pn j := by
  unfold pg
  rw [List.getD_eq_getElem?_getD, List.getD_eq_getElem?_getD]
  by_cases h : j = i
  · rw [if_pos h, h, List.getElem?_set_self hi]; rfl
  · rw [if_neg h, List.getElem?_set_ne (Ne.symm h)]
structure J (k n : Nat) (l : List placeT) (z : Int) (pn : List Int) (b : BackT) : Prop where
  len : l.length = n
  z0 : 0 ≤ z
  z1 : z < (n : Int)
  pl : pn.length = 8
  ids : ∀ p ∈ l, p.xfull = true → 1 ≤ p.xid ∧ p.xid ≤ 6
  dif : l.Pairwise Dif
  pins : ∀ p ∈ l, p.xfull = true → p.xpins = pg pn (Int.toNat p.xid)
  off : ∀ i : Nat, 1 ≤ i → i ≤ 6 → (∀ p ∈ l, hit (i : Int) p = false) → pg pn i = 0
  bd : ∀ i : Nat, 0 ≤ pg pn i ∧ pg pn i ≤ (k : Int)
  good : Good b
theorem J.keep {k n : Nat} {l : List placeT} {z : Int} {pn : List Int} {b : BackT} (h : J k n l z pn b) : J (k + 1) n l z pn b :=
  ⟨h.len, h.z0, h.z1, h.pl, h.ids, h.dif, h.pins, h.off, fun i => ⟨(h.bd i).1, by have := (h.bd i).2; omega⟩, h.good⟩
/-- a page's pins become others -/
theorem J.turn {k n : Nat} {a c : List placeT} {x y : placeT} {z : Int} {pn : List Int} {b : BackT} (h : J k n (a ++ x :: c) z pn b) {i : Nat} {v : Int} (hx : x.xfull = true) (hi : x.xid = (i : Int)) (e1 : y.xfull = x.xfull) (e2 : y.xid = x.xid) (e3 : y.xpins = v) (hv : 0 ≤ v ∧ v ≤ ((k + 1 : Nat) : Int)) : J (k + 1) n (a ++ y :: c) z (List.set pn i v) b := by
  have hid := h.ids x (mem_mid.2 (.inl rfl)) hx
  have hi8 : i < pn.length := by rw [h.pl]; omega
  have hne : ∀ p, p ∈ a ∨ p ∈ c → p.xfull = true → p.xid ≠ (i : Int) := fun p hp hf => by rw [← hi]; exact (dif_of h.dif hp).1 hf hx
  refine ⟨?_, h.z0, h.z1, by rw [List.length_set]; exact h.pl, ?_, ?_, ?_, ?_, ?_, h.good⟩
  · rw [← h.len]; simp
  · intro p hp hf
    rcases mem_mid.1 hp with e | e
    · rw [e, e2]; exact hid
    · exact h.ids p (mem_mid.2 (.inr e)) hf
  · refine dif_mid h.dif fun p hp => ?_
    obtain ⟨d1, d2⟩ := dif_of h.dif hp
    exact ⟨fun u v => by rw [e2]; exact d1 u (e1 ▸ v), fun u v => by rw [e2]; exact d2 (e1 ▸ u) v⟩
  · intro p hp hf
    rcases mem_mid.1 hp with e | e
    · rw [e, e2, e3, hi, pg_set hi8, if_pos (Int.toNat_natCast i)]
    · have := hne p e hf
      have h16 := h.ids p (mem_mid.2 (.inr e)) hf
      rw [pg_set hi8, if_neg (by omega)]
      exact h.pins p (mem_mid.2 (.inr e)) hf
  · intro j hj1 hj6 hn
    rw [pg_set hi8]
    have hy := hit_f.1 (hn y (mem_mid.2 (.inl rfl))) (e1.trans hx)
    rw [if_neg (fun q => hy (by rw [e2, hi, q]))]
    refine h.off j hj1 hj6 fun p hp => ?_
    rcases mem_mid.1 hp with e | e
    · rw [e]; exact hit_f.2 fun _ q => hy (e2.trans q)
    · exact hn p (mem_mid.2 (.inr e))
  · intro j
    rw [pg_set hi8]
    split
    · exact hv
    · have := h.bd j; exact ⟨this.1, by omega⟩
/-- a place gets a page that was not at hand -/
theorem J.load {k n : Nat} {l a c : List placeT} {x : placeT} {z z' : Int} {pn : List Int} {b b' : BackT} (h : J k n l z pn b) (ht : Tch l (a ++ x :: c)) (hz : 0 ≤ z' ∧ z' < (n : Int)) {i : Nat} (h1 : 1 ≤ i) (h6 : i ≤ 6) (hn : ∀ p ∈ l, hit (i : Int) p = false) (hx : x.xfull = true → x.xpins = 0) (t : List UInt8) (hb : Good b') : J (k + 1) n (a ++ newP (i : Int) t :: c) z' (List.set pn i 1) b' := by
  have hi8 : i < pn.length := by rw [h.pl]; omega
  have hm : ∀ p, p ∈ a ∨ p ∈ c → ∃ q ∈ l, unt q = unt p := fun p hp => ht.mem (mem_mid.2 (.inr hp))
  have hne : ∀ p, p ∈ a ∨ p ∈ c → p.xfull = true → p.xid ≠ (i : Int) := fun p hp hf => by
    exact hit_f.1 (ht.nohit hn p (mem_mid.2 (.inr hp))) hf
  refine ⟨?_, hz.1, hz.2, by rw [List.length_set]; exact h.pl, ?_, ?_, ?_, ?_, ?_, hb⟩
  · rw [← h.len, ← ht.len]; simp
  · intro p hp hf
    rcases mem_mid.1 hp with e | e
    · rw [e]; exact ⟨by show (1 : Int) ≤ (i : Int); omega, by show (i : Int) ≤ 6; omega⟩
    · obtain ⟨q, hq, e2⟩ := hm p e
      obtain ⟨f1, f2, _⟩ := unt_f e2
      rw [← f2]; exact h.ids q hq (f1.trans hf)
  · refine dif_mid (ht.dif h.dif) fun p hp => ?_
    exact ⟨fun u _ => hne p hp u, fun _ v => Ne.symm (hne p hp v)⟩
  · intro p hp hf
    rcases mem_mid.1 hp with e | e
    · rw [e, pg_set hi8, show (newP (i : Int) t).xid = (i : Int) from rfl, if_pos (Int.toNat_natCast i)]
      show IntKind.i64.wrap (0 + 1) = 1
      rw [IntWalk.i64_in _ (by omega)]; rfl
    · have h3 := hne p e hf
      obtain ⟨q, hq, e2⟩ := hm p e
      obtain ⟨f1, f2, _, f4, _⟩ := unt_f e2
      have h16 := h.ids q hq (f1.trans hf)
      rw [pg_set hi8, if_neg (by omega), ← f4, ← f2]
      exact h.pins q hq (f1.trans hf)
  · intro j hj1 hj6 hno
    have hy := hit_f.1 (hno _ (mem_mid.2 (.inl rfl))) rfl
    rw [pg_set hi8, if_neg (fun q => hy (by rw [q]; rfl))]
    by_cases hh : ∀ p ∈ l, hit (j : Int) p = false
    · exact h.off j hj1 hj6 hh
    · have : ∃ p ∈ l, hit (j : Int) p = true := by
        apply Classical.byContradiction
        intro q
        exact hh fun p hp => Bool.eq_false_iff.2 fun r => q ⟨p, hp, r⟩
      obtain ⟨p, hp, hpj⟩ := this
      obtain ⟨q, hq, e2⟩ := ht.mem2 hp
      have hqj : hit (j : Int) q = true := by rw [hit_unt e2]; exact hpj
      rcases mem_mid.1 hq with e | e
      · obtain ⟨g1, g2⟩ := hit_t.1 hpj
        have g3 := h.pins p hp g1
        obtain ⟨f1, f2, _, f4, _⟩ := unt_f e2
        rw [e] at f1 f4
        have g4 := hx (f1.trans g1)
        rw [g2, Int.toNat_natCast] at g3
        rw [← g3, ← f4]; exact g4
      · rw [hno q (mem_mid.2 (.inr e))] at hqj; cases hqj
  · intro j
    rw [pg_set hi8]
    split
    · omega
    · have := h.bd j; exact ⟨this.1, by omega⟩
/-! ### how many are at hand -/
theorem filt_or {α : Type} (p q : α → Bool) : ∀ l : List α, (l.filter fun x => p x || q x).length ≤ (l.filter p).length + (l.filter q).length
  | [] => Nat.le_refl _
  | x :: l => by
    have ih := filt_or p q l
    rw [List.filter_cons, List.filter_cons, List.filter_cons]
    cases p x <;> cases q x <;> simp only [Bool.or_true, Bool.or_false, Bool.true_or, Bool.false_or, if_true, if_false, List.length_cons, Bool.false_eq_true] <;> omega
theorem filt_one (y : Int) (f : Bool) : ∀ l : List Nat, l.Pairwise (fun a b => a < b) → (l.filter fun k : Nat => f && decide (y = (k : Int))).length ≤ 1
  | [], _ => Nat.zero_le _
  | k :: l, h => by
    obtain ⟨h1, h2⟩ := List.pairwise_cons.1 h
    rw [List.filter_cons]
    split
    · next c =>
      have hy := of_decide_eq_true (Bool.and_eq_true_iff.1 c).2
      rw [List.filter_eq_nil_iff.2 fun j hj q => ?_]
      · exact Nat.le_refl _
      · have hy2 := of_decide_eq_true (Bool.and_eq_true_iff.1 q).2
        have := h1 j hj
        omega
    · exact filt_one y f l h2
theorem cnt_le : ∀ l : List placeT, ((List.range' 1 6).filter fun k : Nat => l.any (hit (k : Int))).length ≤ l.length
  | [] => by
    rw [List.filter_eq_nil_iff.2 fun k _ q => Bool.noConfusion q]; exact Nat.le_refl _
  | x :: l => by
    have h1 := filt_or (fun k : Nat => hit (k : Int) x) (fun k : Nat => l.any (hit (k : Int))) (List.range' 1 6)
    have h2 := filt_one x.xid x.xfull (List.range' 1 6) List.pairwise_lt_range'
    have h3 := cnt_le l
    show ((List.range' 1 6).filter fun k : Nat => hit (k : Int) x || l.any (hit (k : Int))).length ≤ _
    have h4 : ((List.range' 1 6).filter fun k : Nat => hit (k : Int) x).length ≤ 1 := h2
    rw [List.length_cons]
    omega
def cntF (has : Nat → Bool) : Nat → Nat → Nat
  | 0, _ => 0
  | q + 1, k => if k ≤ 6 then (if has k = true then 1 else 0) + cntF has q (k + 1) else 0
theorem cntF_eq (has : Nat → Bool) : ∀ (m k : Nat), k + m = 7 → cntF has (m + 1) k = ((List.range' k m).filter has).length
  | 0, k, h => by rw [cntF, if_neg (by omega)]; rfl
  | m + 1, k, h => by
    rw [cntF, if_pos (by omega), cntF_eq has m (k + 1) (by omega), List.range'_succ, List.filter_cons]
    split
    · rw [List.length_cons]; omega
    · omega
theorem loop1 (p0 : Int) (pn : List Int) (o : OpD) (l : List placeT) (z : Int) (b : BackT) (v : Int) (hp : ∀ i : Nat, 1 ≤ i → i ≤ 6 → pg (List.set pn (1 + ((Int.toNat ((remI o.xN 6) + 6)) % 6)) (IntKind.i64.wrap (v - 1))) i > 0 → l.any (hit (i : Int)) = true) :
    ∀ (q c k : Nat), 1 ≤ k → k + q = 8 → w10_CachePinned_L1 p0 pn o (CacheT.mk (Ll.mk l) z) b v q c k = .inl (c + cntF (fun i => l.any (hit (i : Int))) q k) ∨ q = 0
  | 0, _, _, _, _ => .inr rfl
  | q + 1, c, k, hk, hq => by
    refine .inl ?_
    rw [w10_CachePinned_L1, cntF]
    by_cases h6 : k ≤ 6
    · have ih := fun c => (loop1 p0 pn o l z b v hp q c (k + 1) (by omega) (by omega)).resolve_right (by omega)
      rw [if_pos (by omega), if_pos h6, bnd_eq, has_told]
      by_cases h : l.any (hit (k : Int)) = true
      · rw [if_pos h, if_pos h, bnd_eq, bnd_eq, if_pos h, ih, ite_self]
        congr 1; omega
      · rw [if_neg h, if_neg h, bnd_eq, if_neg (fun q => h (hp k hk h6 q)), ih]
        congr 1; omega
    · rw [if_neg (by omega), if_neg h6]; rfl
theorem loop3 (p0 : Int) (pn : List Int) (o : OpD) (l : List placeT) (z : Int) (b : BackT) (v : Int) (hp : ∀ i : Nat, 1 ≤ i → i ≤ 6 → pg (List.set pn (1 + ((Int.toNat ((remI o.xN 6) + 6)) % 6)) (IntKind.i64.wrap (v + 1))) i > 0 → l.any (hit (i : Int)) = true) :
    ∀ (q c k : Nat), 1 ≤ k → k + q = 8 → w10_CachePinned_L3 p0 pn o (CacheT.mk (Ll.mk l) z) b v q c k = .inl (c + cntF (fun i => l.any (hit (i : Int))) q k) ∨ q = 0
  | 0, _, _, _, _ => .inr rfl
  | q + 1, c, k, hk, hq => by
    refine .inl ?_
    rw [w10_CachePinned_L3, cntF]
    by_cases h6 : k ≤ 6
    · have ih := fun c => (loop3 p0 pn o l z b v hp q c (k + 1) (by omega) (by omega)).resolve_right (by omega)
      rw [if_pos (by omega), if_pos h6, bnd_eq, has_told]
      by_cases h : l.any (hit (k : Int)) = true
      · rw [if_pos h, if_pos h, bnd_eq, bnd_eq, if_pos h, ih, ite_self]
        congr 1; omega
      · rw [if_neg h, if_neg h, bnd_eq, if_neg (fun q => h (hp k hk h6 q)), ih]
        congr 1; omega
    · rw [if_neg (by omega), if_neg h6]; rfl
theorem loop2 (p0 : Int) (pn : List Int) (l : List placeT) (z : Int) (b : BackT) (hp : ∀ i : Nat, 1 ≤ i → i ≤ 6 → pg pn i > 0 → l.any (hit (i : Int)) = true) :
    ∀ (q c k : Nat), 1 ≤ k → k + q = 8 → w10_CachePinned_L2 p0 pn (CacheT.mk (Ll.mk l) z) b q c k = .inl (c + cntF (fun i => l.any (hit (i : Int))) q k) ∨ q = 0
  | 0, _, _, _, _ => .inr rfl
  | q + 1, c, k, hk, hq => by
    refine .inl ?_
    rw [w10_CachePinned_L2, cntF]
    by_cases h6 : k ≤ 6
    · have ih := fun c => (loop2 p0 pn l z b hp q c (k + 1) (by omega) (by omega)).resolve_right (by omega)
      rw [if_pos (by omega), if_pos h6, bnd_eq, has_told]
      by_cases h : l.any (hit (k : Int)) = true
      · rw [if_pos h, if_pos h, bnd_eq, bnd_eq, if_pos h, ih, ite_self]
        congr 1; omega
      · rw [if_neg h, if_neg h, bnd_eq, if_neg (fun q => h (hp k hk h6 q)), ih]
        congr 1; omega
    · rw [if_neg (by omega), if_neg h6]; rfl
theorem loop4 (p0 : Int) (pn : List Int) (l : List placeT) (z : Int) (b : BackT) (hp : ∀ i : Nat, 1 ≤ i → i ≤ 6 → pg pn i > 0 → l.any (hit (i : Int)) = true) :
    ∀ (q c k : Nat), 1 ≤ k → k + q = 8 → w10_CachePinned_L4 p0 pn (CacheT.mk (Ll.mk l) z) b q c k = .inl (c + cntF (fun i => l.any (hit (i : Int))) q k) ∨ q = 0
  | 0, _, _, _, _ => .inr rfl
  | q + 1, c, k, hk, hq => by
    refine .inl ?_
    rw [w10_CachePinned_L4, cntF]
    by_cases h6 : k ≤ 6
    · have ih := fun c => (loop4 p0 pn l z b hp q c (k + 1) (by omega) (by omega)).resolve_right (by omega)
      rw [if_pos (by omega), if_pos h6, bnd_eq, has_told]
      by_cases h : l.any (hit (k : Int)) = true
      · rw [if_pos h, if_pos h, bnd_eq, bnd_eq, if_pos h, ih, ite_self]
        congr 1; omega
      · rw [if_neg h, if_neg h, bnd_eq, if_neg (fun q => h (hp k hk h6 q)), ih]
        congr 1; omega
    · rw [if_neg (by omega), if_neg h6]; rfl
theorem J.has {k n : Nat} {l : List placeT} {z : Int} {pn : List Int} {b : BackT} (h : J k n l z pn b) : ∀ i : Nat, 1 ≤ i → i ≤ 6 → pg pn i > 0 → l.any (hit (i : Int)) = true := fun i h1 h6 hp => by
  cases hh : l.any (hit (i : Int)) with
  | true => rfl
  | false =>
    have h2 : ∀ p ∈ l, hit (i : Int) p = false := fun p hq => Bool.eq_false_iff.2 fun q => by
      have := List.any_eq_true.2 ⟨p, hq, q⟩
      rw [hh] at this; cases this
    have := h.off i h1 h6 h2
    omega
theorem J.cnt {k n : Nat} {l : List placeT} {z : Int} {pn : List Int} {b : BackT} (h : J k n l z pn b) : cntF (fun i => l.any (hit (i : Int))) 7 1 ≤ n := by
  rw [cntF_eq _ 6 1 rfl]
  have := cnt_le l
  rw [h.len] at this
  exact this
theorem pinned_loop (p0 : Int) (r : Bool) (n : Nat) (hn : n = 1 + ((Int.toNat ((remI p0 6) + 6)) % 6)) : ∀ (ops : List OpD) (k : Nat) (l : List placeT) (z : Int) (pn : List Int) (b : BackT), k + ops.length ≤ 1000 → J k n l z pn b → w10_CachePinned_L0 p0 r ops l z pn b = .inl ()
  | [], _, _, _, _, _, _, _ => by rw [w10_CachePinned_L0]
  | o :: ops, k, l, z, pn, b, hk, h => by
    have hlen := h.len
    obtain ⟨i, hi⟩ : ∃ i, 1 + ((Int.toNat ((remI o.xN 6) + 6)) % 6) = i := ⟨_, rfl⟩
    have h1 : 1 ≤ i := by omega
    have h6 : i ≤ 6 := by omega
    simp only [List.length_cons] at hk
    rw [w10_CachePinned_L0]
    by_cases c : o.xDo = 1
    · rw [if_pos c, bnd_eq, bnd_eq, hi]
      rcases unpin_cases l z (i : Int) b with ⟨u1, u2⟩ | ⟨a, x, q, e, u1, u2, ⟨u3, u4⟩ | ⟨u3, u4⟩⟩
      · have hp0 : List.getD pn i default = 0 := h.off i h1 h6 u1
        rw [u2]
        dsimp only
        rw [hp0, if_pos (show decide ((5 : Int) = 0) = decide ((0 : Int) > 0) from rfl), if_neg (by decide), show (Int.toNat (7 - 1)) + 1 = 7 from rfl, (loop2 p0 pn l z b h.has 7 0 1 (by omega) (by omega)).resolve_right (by omega), lpS_inl]
        have := h.cnt
        rw [if_neg (by rw [Nat.zero_add, ← hn]; omega)]
        exact pinned_loop p0 r n hn ops (k + 1) _ _ _ _ (by omega) h.keep
      · have hx := hit_t.1 u2
        have hpx := h.pins x (by rw [e]; exact mem_mid.2 (.inl rfl)) hx.1
        rw [hx.2, Int.toNat_natCast] at hpx
        have hb := h.bd i
        have hw : IntKind.i64.wrap (pg pn i - 1) = pg pn i - 1 := IntWalk.i64_in _ (by omega)
        rw [e] at h
        have hJ := h.turn (y := decP x) (i := i) (v := pg pn i - 1) hx.1 hx.2 rfl rfl (by show IntKind.i64.wrap (x.xpins - 1) = _; rw [hpx, hw]) ⟨by omega, by omega⟩
        have hpg : List.getD pn i default = pg pn i := rfl
        rw [u4, hpg]
        dsimp only
        rw [if_pos (show decide ((0 : Int) = 0) = decide (pg pn i > 0) by rw [decide_eq_true (show pg pn i > 0 by omega)]; rfl), if_pos (by omega)]
        have hl1 := (loop1 p0 pn o (a ++ decP x :: q) z b (pg pn i) (by rw [hi, hw]; exact hJ.has) 7 0 1 (by omega) (by omega)).resolve_right (by omega)
        rw [show (Int.toNat (7 - 1)) + 1 = 7 from rfl, hl1, lpS_inl]
        have := hJ.cnt
        rw [if_neg (by rw [Nat.zero_add, ← hn]; omega), hw]
        exact pinned_loop p0 r n hn ops (k + 1) _ _ _ _ (by omega) hJ
      · have hx := hit_t.1 u2
        have hpx := h.pins x (by rw [e]; exact mem_mid.2 (.inl rfl)) hx.1
        rw [hx.2, Int.toNat_natCast] at hpx
        have hpg : List.getD pn i default = pg pn i := rfl
        rw [u4, hpg]
        dsimp only
        rw [if_pos (show decide ((5 : Int) = 0) = decide (pg pn i > 0) by rw [decide_eq_false (show ¬ pg pn i > 0 by omega)]; rfl), if_neg (by omega), show (Int.toNat (7 - 1)) + 1 = 7 from rfl, (loop2 p0 pn l z b h.has 7 0 1 (by omega) (by omega)).resolve_right (by omega), lpS_inl]
        have := h.cnt
        rw [if_neg (by rw [Nat.zero_add, ← hn]; omega)]
        exact pinned_loop p0 r n hn ops (k + 1) _ _ _ _ (by omega) h.keep
    · rw [if_neg c, bnd_eq, hi]
      have hpg : List.getD pn i default = pg pn i := rfl
      rcases pin_cases (i : Int) b (l := l) (z := z) (by have := h.z0; have := h.z1; omega) h.z0 (by rw [hlen]; exact h.z1) with ⟨a, x, q, e, u1, u2, u3⟩ | ⟨u0, ⟨a, x, q, e, u1, u2, u3⟩ | ⟨u1, ⟨u2, u3⟩ | ⟨u2, a, x, q, z', u3, u4, u5, u6, u7, u8⟩⟩⟩
      · have hx := hit_t.1 u2
        have hpx := h.pins x (by rw [e]; exact mem_mid.2 (.inl rfl)) hx.1
        rw [hx.2, Int.toNat_natCast] at hpx
        have hb := h.bd i
        have hw : IntKind.i64.wrap (pg pn i + 1) = pg pn i + 1 := IntWalk.i64_in _ (by omega)
        rw [e] at h
        have hJ := h.turn (y := pinP x) (i := i) (v := pg pn i + 1) hx.1 hx.2 rfl rfl (by show IntKind.i64.wrap (x.xpins + 1) = _; rw [hpx, hw]) ⟨by omega, by omega⟩
        rw [u3]
        dsimp only
        simp only [bnd_eq]
        rw [if_pos trivial, hpg]
        have hl3 := (loop3 p0 pn o (a ++ pinP x :: q) z b (pg pn i) (by rw [hi, hw]; exact hJ.has) 7 0 1 (by omega) (by omega)).resolve_right (by omega)
        rw [show (Int.toNat (7 - 1)) + 1 = 7 from rfl, hl3, lpS_inl]
        have := hJ.cnt
        rw [if_neg (by rw [Nat.zero_add, ← hn]; omega), hw]
        exact pinned_loop p0 r n hn ops (k + 1) _ _ _ _ (by omega) hJ
      · have hp0 := h.off i h1 h6 u0
        unfold ld at u3
        rw [load_good h.good (by omega) (by omega), if_pos rfl] at u3
        have hJ := h.load (show Tch l (a ++ x :: q) by rw [e]; rfl) ⟨h.z0, h.z1⟩ h1 h6 u0 (fun f => by rw [u2] at f; cases f) (Option.getD (mget b.xPages (i : Int)) []) (h.good.same b.xLog (b.xCalls ++ [CallD.mk 1 (i : Int) 0 []]))
        rw [u3]
        dsimp only
        simp only [bnd_eq]
        rw [if_pos trivial, hpg, show pg pn i = 0 from hp0]
        have hw : IntKind.i64.wrap (0 + 1) = 1 := by rw [IntWalk.i64_in _ (by omega)]; rfl
        have hl3 := (loop3 p0 pn o _ z (BackT.mk b.xPages b.xLog (b.xCalls ++ [CallD.mk 1 (i : Int) 0 []]) b.xLeft) 0 (by rw [hi, hw]; exact hJ.has) 7 0 1 (by omega) (by omega)).resolve_right (by omega)
        rw [show (Int.toNat (7 - 1)) + 1 = 7 from rfl, hl3, lpS_inl]
        have := hJ.cnt
        rw [if_neg (by rw [Nat.zero_add, ← hn]; omega), hw]
        exact pinned_loop p0 r n hn ops (k + 1) _ _ _ _ (by omega) hJ
      · rw [u3]
        simp only [bnd_eq]
        rw [if_neg (by decide), if_pos trivial, show (Int.toNat (7 - 1)) + 1 = 7 from rfl, (loop4 p0 pn l z b h.has 7 0 1 (by omega) (by omega)).resolve_right (by omega), lpS_inl]
        have := h.cnt
        rw [if_neg (by rw [Nat.zero_add, ← hn]; omega)]
        exact pinned_loop p0 r n hn ops (k + 1) _ _ _ _ (by omega) h.keep
      · have hp0 := h.off i h1 h6 u0
        obtain ⟨g1, g2⟩ := wb_good h.good x
        unfold fin2 at u4
        rw [if_pos g1] at u4
        unfold ld at u4
        rw [load_good g2 (by omega) (by omega), if_pos rfl] at u4
        have hxp : x.xfull = true → x.xpins = 0 := fun f => by
          obtain ⟨y, hy, e2⟩ := u7.mem (mem_mid.2 (.inl rfl))
          obtain ⟨f1, f2, _, f4, _⟩ := unt_f e2
          have := h.pins y hy (f1.trans f)
          have hb := (h.bd (Int.toNat y.xid)).1
          omega
        have hJ := h.load u7 (by rw [← hlen]; exact u8) h1 h6 u0 hxp (Option.getD (mget (wb b x).2.xPages (i : Int)) []) (g2.same (wb b x).2.xLog ((wb b x).2.xCalls ++ [CallD.mk 1 (i : Int) 0 []]))
        rw [u4]
        dsimp only
        simp only [bnd_eq]
        rw [if_pos trivial, hpg, show pg pn i = 0 from hp0]
        have hw : IntKind.i64.wrap (0 + 1) = 1 := by rw [IntWalk.i64_in _ (by omega)]; rfl
        have hl3 := (loop3 p0 pn o _ z' (BackT.mk (wb b x).2.xPages (wb b x).2.xLog ((wb b x).2.xCalls ++ [CallD.mk 1 (i : Int) 0 []]) (wb b x).2.xLeft) 0 (by rw [hi, hw]; exact hJ.has) 7 0 1 (by omega) (by omega)).resolve_right (by omega)
        rw [show (Int.toNat (7 - 1)) + 1 = 7 from rfl, hl3, lpS_inl]
        have := hJ.cnt
        rw [if_neg (by rw [Nat.zero_add, ← hn]; omega), hw]
        exact pinned_loop p0 r n hn ops (k + 1) _ _ _ _ (by omega) hJ
theorem T_CachePinned (p0 : Int) (l : List OpD) : w10_CachePinned p0 l = true := by
  unfold w10_CachePinned
  rw [bnd_eq, bnd_eq, live_true]
  by_cases c : ((l.length : Nat) : Int) > 200
  · rw [if_pos c]; rfl
  · rw [if_neg c]
    obtain ⟨n, hn⟩ : ∃ n, n = 1 + ((Int.toNat ((remI p0 6) + 6)) % 6) := ⟨_, rfl⟩
    have hJ : J 0 n (List.replicate n (placeT.mk false 0 (Ll.mk ([])) 0 false false 0)) 0 (List.replicate 8 0) (r10_NewBack 6 (-1)) := by
      have hp : ∀ i, pg (List.replicate 8 0) i = 0 := fun i => by
        unfold pg
        rw [List.getD_eq_getElem?_getD, List.getElem?_replicate]
        split <;> rfl
      refine ⟨List.length_replicate, by omega, by omega, rfl, ?_, ?_, ?_, fun i _ _ _ => hp i, fun i => by rw [hp i]; omega, new_good⟩
      · intro p hp hf; rw [(List.mem_replicate.1 hp).2] at hf; cases hf
      · exact List.pairwise_replicate.2 (.inr fun f => by cases f)
      · intro p hp hf; rw [(List.mem_replicate.1 hp).2] at hf; cases hf
    rw [← hn, pinned_loop p0 true n hn l 0 _ _ _ _ (by omega) hJ]; rfl
end Go.Proofs.Ytkekaemfokmhdaa
