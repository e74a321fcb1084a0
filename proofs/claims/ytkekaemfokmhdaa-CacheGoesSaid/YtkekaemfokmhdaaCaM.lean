/-
  A cache's methods as mathematics: a page found, a place that is empty, the hand's turn. Conditions: none beyond each law's own.
-/
import Derived.Test.YtkekaemfokmhdaaCc
namespace Go.Proofs.Ytkekaemfokmhdaa
set_option linter.unusedVariables false
set_option linter.unusedSimpArgs false
theorem bnd_eq {α β : Type} (x : α) (f : α → β) : bnd x f = f x := rfl
theorem gd {α : Type} [Inhabited α] (a q : List α) (p : α) : List.getD (a ++ p :: q) a.length default = p := by simp
theorem stt {α : Type} (a q : List α) (p y : α) : List.set (a ++ p :: q) a.length y = a ++ y :: q := by simp
theorem lp_inl {α ρ : Type} (a : α) (f : α → ρ) : lp (Sum.inl a) f = f a := rfl
theorem lp_inr {α ρ : Type} (a : ρ) (f : α → ρ) : lp (Sum.inr a) f = a := rfl
theorem lpS_inl {α σ ρ : Type} (a : α) (f : α → σ ⊕ ρ) : lpS (Sum.inl a) f = f a := rfl
theorem lpS_inr {α σ ρ : Type} (a : ρ) (f : α → σ ⊕ ρ) : lpS (Sum.inr a) f = Sum.inr a := rfl
def hit (id : Int) (p : placeT) : Bool := p.xfull && decide (p.xid = id)
def pinP (x : placeT) : placeT := placeT.mk x.xfull x.xid (Ll.mk x.xbytes.ls) (IntKind.i64.wrap (x.xpins + 1)) true x.xdirty x.xlsn
def newP (id : Int) (t : List UInt8) : placeT := placeT.mk true id (Ll.mk t) (IntKind.i64.wrap (0 + 1)) true false 0
def zeroP : placeT := placeT.mk false 0 (Ll.mk []) 0 false false 0
def unt (x : placeT) : placeT := placeT.mk x.xfull x.xid (Ll.mk x.xbytes.ls) x.xpins false x.xdirty x.xlsn
/-- a place's page written back -/
def wb (b : BackT) (x : placeT) : Int × BackT :=
  if x.xdirty = true then
    (if ((r10_Back_Safe b : Nat) : Int) < ((x.xlsn : Nat) : Int) then (if (r10_Back_Force b x.xlsn).1 = 0 then r10_Back_Save (r10_Back_Force b x.xlsn).2 x.xid x.xbytes.ls else r10_Back_Force b x.xlsn) else r10_Back_Save b x.xid x.xbytes.ls)
  else (0, b)
/-- a page loaded into the place between a and c -/
def ld (a c l0 : List placeT) (id h : Int) (b : BackT) : (List UInt8) × Int × CacheT × BackT :=
  if (r10_Back_Load b id).2.1 = 0 then ((r10_Back_Load b id).1, 0, CacheT.mk (Ll.mk (a ++ newP id (r10_Back_Load b id).1 :: c)) h, (r10_Back_Load b id).2.2)
  else ([], (r10_Back_Load b id).2.1, CacheT.mk (Ll.mk l0) h, (r10_Back_Load b id).2.2)
def fin2 (a c : List placeT) (x : placeT) (id h : Int) (b : BackT) : (List UInt8) × Int × CacheT × BackT :=
  if (wb b x).1 = 0 then ld a c (a ++ zeroP :: c) id h (wb b x).2 else ([], (wb b x).1, CacheT.mk (Ll.mk (a ++ x :: c)) h, (wb b x).2)
theorem hit_t {id : Int} {p : placeT} : hit id p = true ↔ p.xfull = true ∧ p.xid = id := by
  unfold hit; rw [Bool.and_eq_true_iff, decide_eq_true_eq]
theorem pin_L0 (l : List placeT) (h id : Int) (b : BackT) : ∀ (q pre : List placeT), l = pre ++ q →
    ((∀ p ∈ q, hit id p = false) ∧ cache_Cache_Pin_L0 (CacheT.mk (Ll.mk l) h) id b q pre.length = .inl ()) ∨
    ∃ a x c, q = a ++ x :: c ∧ (∀ p ∈ a, hit id p = false) ∧ hit id x = true ∧ cache_Cache_Pin_L0 (CacheT.mk (Ll.mk l) h) id b q pre.length = .inr (x.xbytes.ls, 0, CacheT.mk (Ll.mk (pre ++ a ++ pinP x :: c)) h, b)
  | [], pre, _ => .inl ⟨fun p hp => (by cases hp), rfl⟩
  | x :: q, pre, e => by
    by_cases hx : hit id x = true
    · obtain ⟨h1, h2⟩ := hit_t.1 hx
      refine .inr ⟨[], x, q, rfl, fun p hp => (by cases hp), hx, ?_⟩
      rw [cache_Cache_Pin_L0, if_pos h1, if_pos h2, e]
      simp only [bnd_eq, stt, gd, List.append_nil]
      rfl
    · have hx' := Bool.eq_false_iff.2 hx
      have step : cache_Cache_Pin_L0 (CacheT.mk (Ll.mk l) h) id b (x :: q) pre.length = cache_Cache_Pin_L0 (CacheT.mk (Ll.mk l) h) id b q (pre ++ [x]).length := by
        rw [cache_Cache_Pin_L0, List.length_append, List.length_cons, List.length_nil]
        by_cases h1 : x.xfull = true
        · rw [if_pos h1, if_neg (fun h2 => hx (hit_t.2 ⟨h1, h2⟩))]
        · rw [if_neg h1]
      rw [step]
      rcases pin_L0 l h id b q (pre ++ [x]) (by rw [e]; simp) with ⟨k1, k2⟩ | ⟨a, y, c, k1, k2, k3, k4⟩
      · refine .inl ⟨fun p hp => ?_, k2⟩
        rcases List.mem_cons.1 hp with r | r
        · rw [r]; exact hx'
        · exact k1 p r
      · refine .inr ⟨x :: a, y, c, by rw [k1]; rfl, fun p hp => ?_, k3, by rw [k4]; simp⟩
        rcases List.mem_cons.1 hp with r | r
        · rw [r]; exact hx'
        · exact k2 p r
theorem pin_L1 (l : List placeT) (h id : Int) (b : BackT) : ∀ (q pre : List placeT) (f : Bool), l = pre ++ q →
    ((∀ p ∈ q, p.xfull = true) ∧ cache_Cache_Pin_L1 (CacheT.mk (Ll.mk l) h) id b q f pre.length = .inl (f || q.any fun p => decide (p.xpins = 0))) ∨
    ∃ a x c, q = a ++ x :: c ∧ (∀ p ∈ a, p.xfull = true) ∧ x.xfull = false ∧ cache_Cache_Pin_L1 (CacheT.mk (Ll.mk l) h) id b q f pre.length = .inr (ld (pre ++ a) c l id h b)
  | [], pre, f, _ => .inl ⟨fun p hp => (by cases hp), by rw [cache_Cache_Pin_L1]; simp⟩
  | x :: q, pre, f, e => by
    by_cases hx : x.xfull = true
    · have step : cache_Cache_Pin_L1 (CacheT.mk (Ll.mk l) h) id b (x :: q) f pre.length = cache_Cache_Pin_L1 (CacheT.mk (Ll.mk l) h) id b q (f || decide (x.xpins = 0)) (pre ++ [x]).length := by
        rw [cache_Cache_Pin_L1, if_pos hx, List.length_append, List.length_cons, List.length_nil]
        cases f with
        | true => rw [if_pos rfl, Bool.true_or]
        | false => rw [if_neg (by decide), Bool.false_or]
      rw [step]
      rcases pin_L1 l h id b q (pre ++ [x]) _ (by rw [e]; simp) with ⟨k1, k2⟩ | ⟨a, y, c, k1, k2, k3, k4⟩
      · refine .inl ⟨fun p hp => ?_, by rw [k2, List.any_cons, Bool.or_assoc]⟩
        rcases List.mem_cons.1 hp with r | r
        · rw [r]; exact hx
        · exact k1 p r
      · refine .inr ⟨x :: a, y, c, by rw [k1]; rfl, fun p hp => ?_, k3, by rw [k4]; simp⟩
        rcases List.mem_cons.1 hp with r | r
        · rw [r]; exact hx
        · exact k2 p r
    · refine .inr ⟨[], x, q, rfl, fun p hp => (by cases hp), Bool.eq_false_iff.2 hx, ?_⟩
      rw [cache_Cache_Pin_L1, if_neg hx, bnd_eq]
      unfold ld
      by_cases c : (r10_Back_Load b id).2.1 = 0
      · rw [if_pos c, if_pos c, e]
        simp only [bnd_eq, stt, gd, List.append_nil]
        rfl
      · rw [if_neg c, if_neg c]
def turnF (n : Nat) : Nat → Int → List placeT → Int × List placeT × Nat
  | 0, z, l => (z, l, 0)
  | f + 1, z, l => if (List.getD l (Int.toNat z) default).xpins > 0 then turnF n f (remI (z + 1) n) l
    else if (List.getD l (Int.toNat z) default).xtouched = true then turnF n f (remI (z + 1) n) (List.set l (Int.toNat z) (unt (List.getD l (Int.toNat z) default)))
    else (remI (z + 1) n, l, Int.toNat z)
/-- the same but for what was touched -/
def Tch (l m : List placeT) : Prop := m.map unt = l.map unt
theorem split_at {α : Type} [Inhabited α] {l : List α} {i : Nat} (h : i < l.length) : ∃ a x c, l = a ++ x :: c ∧ a.length = i ∧ List.getD l i default = x := by
  refine ⟨List.take i l, l[i], List.drop (i + 1) l, ?_, by rw [List.length_take]; omega, by rw [List.getD_eq_getElem?_getD, List.getElem?_eq_getElem h]; rfl⟩
  conv => lhs; rw [← List.take_append_drop i l, List.drop_eq_getElem_cons h]
theorem pin_L2_end (p0 : CacheT) (id : Int) (b : BackT) (f : Nat) (z : Int) (a c : List placeT) (x : placeT) (hz : Int.toNat z = a.length) (h1 : ¬ x.xpins > 0) (h2 : ¬ x.xtouched = true) : cache_Cache_Pin_L2 p0 id b (f + 1) z (a ++ x :: c) = .inr (fin2 a c x id (remI (z + 1) (List.length p0.xplaces.ls)) b) := by
  rw [cache_Cache_Pin_L2]
  simp only [bnd_eq, hz, stt, gd]
  rw [if_neg h1, if_neg h2]
  unfold fin2 wb ld
  by_cases d : x.xdirty = true
  · rw [if_pos d]
    by_cases s : ((r10_Back_Safe b : Nat) : Int) < ((x.xlsn : Nat) : Int)
    · rw [if_pos s]
      by_cases e1 : (r10_Back_Force b x.xlsn).1 = 0
      · rw [if_pos e1, lpS_inl]
        simp only [if_pos d, if_pos s, if_pos e1]
        by_cases e2 : (r10_Back_Save (r10_Back_Force b x.xlsn).2 x.xid x.xbytes.ls).1 = 0
        · rw [if_pos e2, if_pos e2]
          by_cases e3 : (r10_Back_Load (r10_Back_Save (r10_Back_Force b x.xlsn).2 x.xid x.xbytes.ls).2 id).2.1 = 0
          · rw [if_pos e3, if_pos e3]; rfl
          · rw [if_neg e3, if_neg e3]; rfl
        · rw [if_neg e2, if_neg e2]
      · rw [if_neg e1, lpS_inr]
        simp only [if_pos d, if_pos s, if_neg e1]
    · rw [if_neg s, lpS_inl]
      simp only [if_pos d, if_neg s]
      by_cases e2 : (r10_Back_Save b x.xid x.xbytes.ls).1 = 0
      · rw [if_pos e2, if_pos e2]
        by_cases e3 : (r10_Back_Load (r10_Back_Save b x.xid x.xbytes.ls).2 id).2.1 = 0
        · rw [if_pos e3, if_pos e3]; rfl
        · rw [if_neg e3, if_neg e3]; rfl
      · rw [if_neg e2, if_neg e2]
  · rw [if_neg d]
    simp only [if_neg d]
    rw [if_pos trivial]
    by_cases e3 : (r10_Back_Load b id).2.1 = 0
    · rw [if_pos e3, if_pos e3]; rfl
    · rw [if_neg e3, if_neg e3]; rfl
theorem pin_L2 (p0 : CacheT) (id : Int) (b : BackT) (n : Nat) (hn : List.length p0.xplaces.ls = n) : ∀ (f : Nat) (z : Int) (l : List placeT), UnP l → 0 ≤ z → z < (n : Int) → l.length = n → tm l (Int.toNat z) < f →
    ∃ a x c z', turnF n f z l = (z', a ++ x :: c, a.length) ∧ cache_Cache_Pin_L2 p0 id b f z l = .inr (fin2 a c x id z' b) ∧ ¬ x.xpins > 0 ∧ x.xtouched = false ∧ Tch l (a ++ x :: c) ∧ 0 ≤ z' ∧ z' < (n : Int)
  | 0, z, l, _, _, _, _, h => by omega
  | f + 1, z, l, hu, h0, h1, hl, hf => by
    obtain ⟨a, x, c, e, ha, hx⟩ := split_at (l := l) (i := Int.toNat z) (by omega)
    have hget : l[Int.toNat z]? = some x := by rw [e, ← ha]; simp
    have hb := remI_bd (z + 1) (n := n) (by omega)
    have hb2 := remI_nn (a := z + 1) (n := n) (by omega)
    have hnx : remI (z + 1) n = if z + 1 = (n : Int) then 0 else z + 1 := hand_next h0 h1
    by_cases c1 : x.xpins > 0
    · obtain ⟨a', x', c', z', k1, k2, k3⟩ := pin_L2 p0 id b n hn f (remI (z + 1) n) l hu hb2 hb.2 hl (tm_pin hu hget c1 h0 hl hnx hf)
      refine ⟨a', x', c', z', ?_, ?_, k3⟩
      · rw [turnF, hx, if_pos c1]; exact k1
      · rw [cache_Cache_Pin_L2, bnd_eq, hx, if_pos c1, hn]; exact k2
    · by_cases c2 : x.xtouched = true
      · have hyp : (unt x).xpins = x.xpins := rfl
        obtain ⟨a', x', c', z', k1, k2, k3, k4, k5, k6⟩ := pin_L2 p0 id b n hn f (remI (z + 1) n) (List.set l (Int.toNat z) (unt x)) (un_set hu hget hyp) hb2 hb.2 (by rw [List.length_set]; exact hl) (tm_touch hu hget c1 c2 hyp rfl hf)
        refine ⟨a', x', c', z', ?_, ?_, k3, k4, ?_, k6⟩
        · rw [turnF, hx, if_neg c1, if_pos c2]; exact k1
        · rw [cache_Cache_Pin_L2, bnd_eq, hx, if_neg c1, if_pos c2, hn]; exact k2
        · unfold Tch at k5 ⊢
          rw [k5, e, ← ha, stt]
          simp only [List.map_append, List.map_cons]
          rfl
      · refine ⟨a, x, c, remI (z + 1) n, ?_, ?_, c1, Bool.eq_false_iff.2 c2, by rw [e]; rfl, hb2, hb.2⟩
        · rw [turnF, hx, if_neg c1, if_neg c2, ha, e]
        · rw [e, pin_L2_end p0 id b f z a c x ha.symm c1 c2, hn]
/-- what a Pin does -/
theorem pin_cases {l : List placeT} {z : Int} (id : Int) (b : BackT) (hl : 1 ≤ l.length) (h0 : 0 ≤ z) (h1 : z < (l.length : Int)) :
    (∃ a x c, l = a ++ x :: c ∧ (∀ p ∈ a, hit id p = false) ∧ hit id x = true ∧ cache_Cache_Pin (CacheT.mk (Ll.mk l) z) id b = (x.xbytes.ls, 0, CacheT.mk (Ll.mk (a ++ pinP x :: c)) z, b)) ∨
    ((∀ p ∈ l, hit id p = false) ∧ ((∃ a x c, l = a ++ x :: c ∧ (∀ p ∈ a, p.xfull = true) ∧ x.xfull = false ∧ cache_Cache_Pin (CacheT.mk (Ll.mk l) z) id b = ld a c l id z b) ∨
    ((∀ p ∈ l, p.xfull = true) ∧ ((¬ UnP l ∧ cache_Cache_Pin (CacheT.mk (Ll.mk l) z) id b = ([], 100, CacheT.mk (Ll.mk l) z, b)) ∨
    (UnP l ∧ ∃ a x c z', turnF l.length (tm l (Int.toNat z) + 1) z l = (z', a ++ x :: c, a.length) ∧ cache_Cache_Pin (CacheT.mk (Ll.mk l) z) id b = fin2 a c x id z' b ∧ ¬ x.xpins > 0 ∧ x.xtouched = false ∧ Tch l (a ++ x :: c) ∧ 0 ≤ z' ∧ z' < (l.length : Int)))))) := by
  have hp : ∀ q, cache_Cache_Pin (CacheT.mk (Ll.mk l) z) id b = q ↔ (lp (cache_Cache_Pin_L0 (CacheT.mk (Ll.mk l) z) id b l ([] : List placeT).length) fun _ => lp (cache_Cache_Pin_L1 (CacheT.mk (Ll.mk l) z) id b l false ([] : List placeT).length) fun s => if s = true then lp (cache_Cache_Pin_L2 (CacheT.mk (Ll.mk l) z) id b ((tm l (Int.toNat z)) + 1) z l) fun _ => default else ([], 100, CacheT.mk (Ll.mk l) z, b)) = q := fun q => Iff.rfl
  rcases pin_L0 l z id b l [] rfl with ⟨k1, k2⟩ | ⟨a, x, c, k1, k2, k3, k4⟩
  · refine .inr ⟨k1, ?_⟩
    simp only [hp, k2, lp_inl]
    rcases pin_L1 l z id b l [] false rfl with ⟨j1, j2⟩ | ⟨a, x, c, j1, j2, j3, j4⟩
    · refine .inr ⟨j1, ?_⟩
      simp only [j2, lp_inl, Bool.false_or]
      by_cases u : UnP l
      · refine .inr ⟨u, ?_⟩
        have hany : (l.any fun p => decide (p.xpins = 0)) = true := by
          obtain ⟨p, hp, e⟩ := u
          exact List.any_eq_true.2 ⟨p, hp, decide_eq_true e⟩
        obtain ⟨a, x, c, z', m1, m2, m3⟩ := pin_L2 (CacheT.mk (Ll.mk l) z) id b l.length rfl (tm l (Int.toNat z) + 1) z l u h0 h1 rfl (Nat.lt_succ_self _)
        refine ⟨a, x, c, z', m1, ?_, m3⟩
        rw [hany, if_pos rfl, m2, lp_inr]
      · refine .inl ⟨u, ?_⟩
        have hany : (l.any fun p => decide (p.xpins = 0)) = false := Bool.eq_false_iff.2 fun q => by
          obtain ⟨p, hp, e⟩ := List.any_eq_true.1 q
          exact u ⟨p, hp, of_decide_eq_true e⟩
        rw [hany, if_neg (by decide)]
    · refine .inl ⟨a, x, c, j1, j2, j3, ?_⟩
      rw [j4, lp_inr]; rfl
  · refine .inl ⟨a, x, c, k1, k2, k3, ?_⟩
    rw [hp, k4, lp_inr]; rfl
theorem has_told (l : List placeT) (z id : Int) (b : BackT) : cache_Cache_Has (CacheT.mk (Ll.mk l) z) id b = l.any (hit id) := by
  have go : ∀ q : List placeT, lp (cache_Cache_Has_L0 id q) (fun _ => false) = q.any (hit id) := by
    intro q
    induction q with
    | nil => rfl
    | cons x q ih =>
      rw [cache_Cache_Has_L0, List.any_cons]
      by_cases h1 : x.xfull = true
      · rw [if_pos h1]
        by_cases h2 : x.xid = id
        · rw [if_pos h2, hit_t.2 ⟨h1, h2⟩]; rfl
        · rw [if_neg h2, ih, show hit id x = false from Bool.eq_false_iff.2 fun q => h2 (hit_t.1 q).2]; rfl
      · rw [if_neg h1, ih, show hit id x = false from Bool.eq_false_iff.2 fun q => h1 (hit_t.1 q).1]; rfl
  exact go l
def decP (x : placeT) : placeT := placeT.mk x.xfull x.xid (Ll.mk x.xbytes.ls) (IntKind.i64.wrap (x.xpins - 1)) x.xtouched x.xdirty x.xlsn
theorem unpin_cases (l : List placeT) (z id : Int) (b : BackT) :
    ((∀ p ∈ l, hit id p = false) ∧ cache_Cache_Unpin (CacheT.mk (Ll.mk l) z) id b = (5, CacheT.mk (Ll.mk l) z, b)) ∨
    ∃ a x c, l = a ++ x :: c ∧ (∀ p ∈ a, hit id p = false) ∧ hit id x = true ∧ ((x.xpins > 0 ∧ cache_Cache_Unpin (CacheT.mk (Ll.mk l) z) id b = (0, CacheT.mk (Ll.mk (a ++ decP x :: c)) z, b)) ∨ (¬ x.xpins > 0 ∧ cache_Cache_Unpin (CacheT.mk (Ll.mk l) z) id b = (5, CacheT.mk (Ll.mk l) z, b))) := by
  have go : ∀ (q pre : List placeT), l = pre ++ q →
      ((∀ p ∈ q, hit id p = false) ∧ cache_Cache_Unpin_L0 (CacheT.mk (Ll.mk l) z) id b q pre.length = .inl ()) ∨
      ∃ a x c, q = a ++ x :: c ∧ (∀ p ∈ a, hit id p = false) ∧ hit id x = true ∧ ((x.xpins > 0 ∧ cache_Cache_Unpin_L0 (CacheT.mk (Ll.mk l) z) id b q pre.length = .inr (0, CacheT.mk (Ll.mk (pre ++ a ++ decP x :: c)) z, b)) ∨ (¬ x.xpins > 0 ∧ cache_Cache_Unpin_L0 (CacheT.mk (Ll.mk l) z) id b q pre.length = .inr (5, CacheT.mk (Ll.mk l) z, b))) := by
    intro q
    induction q with
    | nil => intro pre _; exact .inl ⟨fun p hp => (by cases hp), rfl⟩
    | cons x q ih =>
      intro pre e
      by_cases hx : hit id x = true
      · obtain ⟨h1, h2⟩ := hit_t.1 hx
        refine .inr ⟨[], x, q, rfl, fun p hp => (by cases hp), hx, ?_⟩
        rw [cache_Cache_Unpin_L0, if_pos h1, if_pos h2]
        by_cases h3 : x.xpins > 0
        · refine .inl ⟨h3, ?_⟩
          rw [if_pos h3, e]
          simp only [stt, List.append_nil]
          rfl
        · exact .inr ⟨h3, by rw [if_neg h3]⟩
      · have hx' := Bool.eq_false_iff.2 hx
        have step : cache_Cache_Unpin_L0 (CacheT.mk (Ll.mk l) z) id b (x :: q) pre.length = cache_Cache_Unpin_L0 (CacheT.mk (Ll.mk l) z) id b q (pre ++ [x]).length := by
          rw [cache_Cache_Unpin_L0, List.length_append, List.length_cons, List.length_nil]
          by_cases h1 : x.xfull = true
          · rw [if_pos h1, if_neg (fun h2 => hx (hit_t.2 ⟨h1, h2⟩))]
          · rw [if_neg h1]
        rw [step]
        rcases ih (pre ++ [x]) (by rw [e]; simp) with ⟨k1, k2⟩ | ⟨a, y, c, k1, k2, k3, k4⟩
        · refine .inl ⟨fun p hp => ?_, k2⟩
          rcases List.mem_cons.1 hp with r | r
          · rw [r]; exact hx'
          · exact k1 p r
        · refine .inr ⟨x :: a, y, c, by rw [k1]; rfl, fun p hp => ?_, k3, ?_⟩
          · rcases List.mem_cons.1 hp with r | r
            · rw [r]; exact hx'
            · exact k2 p r
          · rcases k4 with ⟨k4, k5⟩ | ⟨k4, k5⟩
            · exact .inl ⟨k4, by rw [k5]; simp⟩
            · exact .inr ⟨k4, k5⟩
  rcases go l [] rfl with ⟨k1, k2⟩ | ⟨a, x, c, k1, k2, k3, k4⟩
  · refine .inl ⟨k1, ?_⟩
    show lp (cache_Cache_Unpin_L0 (CacheT.mk (Ll.mk l) z) id b l ([] : List placeT).length) _ = _
    rw [k2]; rfl
  · refine .inr ⟨a, x, c, k1, k2, k3, ?_⟩
    show (_ ∧ lp (cache_Cache_Unpin_L0 (CacheT.mk (Ll.mk l) z) id b l ([] : List placeT).length) _ = _) ∨ (_ ∧ lp (cache_Cache_Unpin_L0 (CacheT.mk (Ll.mk l) z) id b l ([] : List placeT).length) _ = _)
    rcases k4 with ⟨k4, k5⟩ | ⟨k4, k5⟩
    · exact .inl ⟨k4, by rw [k5]; rfl⟩
    · exact .inr ⟨k4, by rw [k5]; rfl⟩
end Go.Proofs.Ytkekaemfokmhdaa
