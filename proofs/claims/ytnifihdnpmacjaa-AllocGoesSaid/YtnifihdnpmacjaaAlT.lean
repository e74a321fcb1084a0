/-
  What the two allocators tell of one thing, side by side.
-/
import Derived.Test.YtnifihdnpmacjaaAlS
namespace Go.Proofs.Ytnifihdnpmacjaa
open Go.RowKit

theorem take2 {g P : Nat} {n : Int} {f : Nat → Bool} {w w' : World} {e : Ending} (h1 : TakeP g P n f w e w') (a : Alc w g P f) : ∃ (m er : Int) (f' : Nat → Bool), e = .returned (.tuple #[.int .i64 m, .int .i64 er]) ∧ Hid (Low f P → Low f' P) ∧ Hid (Alc w' g P f') ∧ Hid (Upd g w w') ∧
    Hid (∀ (bh bt : Nat) (v v' : World) (e' : Ending), rTakeP bh bt P n f v e' v' → RA v bh bt P f → e' = .returned (.tuple #[.int .i64 m, .int .i64 er]) ∧ RA v' bh bt P f' ∧ Upd bt v v') := by
  rcases h1 with ⟨er, rfl, hc, rfl⟩ | ⟨m, k, rfl, hk, rfl, q1, q2, q3, ha, hu⟩
  · refine ⟨0, er, f, rfl, fun h => h, a, Upd.refl _ _, fun bh bt v v' e' hr r => ?_⟩
    rcases hr with ⟨er', rfl, hc', rfl⟩ | ⟨m, k, rfl, hk, rfl, q1, q2, q3, _⟩
    · have : er' = er := by rcases hc with ⟨_, e1⟩ | ⟨_, e1, _⟩ <;> rcases hc' with ⟨_, e2⟩ | ⟨_, e2, _⟩ <;> omega
      subst this
      exact ⟨rfl, r, Upd.refl _ _⟩
    · rcases hc with ⟨e1, _⟩ | ⟨_, _, e2⟩
      · omega
      · exact absurd (by rw [Int.toNat_natCast]; exact q2) (e2 m (by omega))
  · refine ⟨m, 0, fill f m k, rfl, fun h => low_fill h q1, ha, hu, fun bh bt v v' e' hr r => ?_⟩
    rcases hr with ⟨er', rfl, hc', rfl⟩ | ⟨m', k', hkk, hk', rfl, q1', q2', q3', hr', hu'⟩
    · rcases hc' with ⟨e1, _⟩ | ⟨_, _, e2⟩
      · omega
      · exact absurd (by rw [Int.toNat_natCast]; exact q2) (e2 m (by omega))
    · have : k' = k := by omega
      subst this
      have hm : m' = m := by
        rcases Nat.lt_trichotomy m' m with h | h | h
        · exact absurd q2' (q3 m' h)
        · exact h
        · exact absurd q2 (q3' m h)
      subst hm
      exact ⟨rfl, hr'.out, hu'.out⟩

theorem ld_err {p er : Int} {xs : List UInt8} {v v' : World} {e' : Ending} (hc : (ldE p xs ≠ 0 ∧ er = ldE p xs) ∨ (ldE p xs = 0 ∧ er = 11 ∧ ¬ Low (fb xs) p.toNat)) (h : rLoadP p xs v e' v') : e' = .returned (.tuple #[.pointer none, .int .i64 er]) ∧ Below v.heap.size v v' := by
  rcases h with ⟨er', rfl, hc', hb⟩ | ⟨P, rfl, h1, h2, h3, h4, rfl, _, _⟩
  · have : er' = er := by rcases hc with ⟨a1, e1⟩ | ⟨a1, e1, _⟩ <;> rcases hc' with ⟨a2, e2⟩ | ⟨a2, e2, _⟩ <;> omega
    subst this
    exact ⟨rfl, hb⟩
  · have h0 : ldE (P : Int) xs = 0 := by unfold ldE; rw [if_neg (by omega), if_pos (by omega)]
    rcases hc with ⟨a1, _⟩ | ⟨_, _, a1⟩
    · exact absurd h0 a1
    · rw [Int.toNat_natCast] at a1; exact absurd h4 a1

theorem ld_ok {P : Nat} {xs : List UInt8} {v v' : World} {e' : Ending} (h1 : 1 ≤ P) (h2 : P ≤ 1024) (h3 : xs.length = (P + 7) / 8) (h4 : Low (fb xs) P) (h : rLoadP (P : Int) xs v e' v') :
    e' = .returned (.tuple #[.pointer (some ⟨v.heap.size + 1, 0, none⟩), .int .i64 0]) ∧ Hid (RA v' (v.heap.size + 1) v.heap.size P (fb xs)) ∧ Below v.heap.size v v' := by
  have h0 : ldE (P : Int) xs = 0 := by unfold ldE; rw [if_neg (by omega), if_pos (by omega)]
  rcases h with ⟨er', rfl, hc', hb⟩ | ⟨P', hPP, _, _, _, _, rfl, hr, hb⟩
  · rcases hc' with ⟨a1, _⟩ | ⟨_, _, a1⟩
    · exact absurd h0 a1
    · rw [Int.toNat_natCast] at a1; exact absurd h4 a1
  · have : P' = P := by omega
    subst this
    exact ⟨rfl, hr, hb⟩

theorem new_some {p : Int} {w w' : World} {e : Ending} (h : NewP p w e w') : ∃ a b, e = .returned (.tuple #[.pointer a, .int .i64 b]) ∧ Below w.heap.size w w' := by
  rcases h with ⟨rfl, _, rfl⟩ | ⟨P, _, _, _, rfl, _, hb⟩
  · exact ⟨_, _, rfl, Below.refl _ _⟩
  · exact ⟨_, _, rfl, hb⟩
theorem rnew_some {p : Int} {w w' : World} {e : Ending} (h : rNewP p w e w') : ∃ a b, e = .returned (.tuple #[.pointer a, .int .i64 b]) ∧ Below w.heap.size w w' := by
  rcases h with ⟨rfl, _, rfl⟩ | ⟨P, _, _, _, rfl, _, hb⟩
  · exact ⟨_, _, rfl, Below.refl _ _⟩
  · exact ⟨_, _, rfl, hb⟩

/-- The block of an owned row of bytes in a later world; no block of another, where it is empty. -/
theorem own_blk {w w2 : World} {base n c : Nat} {A : Option Addr} {xs : List Value} (h : w.ownsRow base 5 1 (.slice A n c) n xs) (hb : Below w.heap.size w w2) (hbase : base ≤ w.heap.size) :
    ∃ go, base ≤ go ∧ (go < w.heap.size ∨ w2.heap.size ≤ go) ∧ (0 < n → A = some ⟨go, 0, none⟩ ∧ ∃ cur : Array Value, w2.heap[go]? = some (.cells cur 5 (0, 0)) ∧ n ≤ cur.size) := by
  rcases h.2 with ⟨_, h0⟩ | ⟨g, cap, cur, hv, hg1, hg, hcap, hcm, hcs, htake⟩
  · exact ⟨w2.heap.size, by have := hb.size; omega, by omega, fun h => by omega⟩
  · injection hv with hA _ _
    have l := (Array.getElem?_eq_some_iff.1 hg).1
    exact ⟨g, hg1, .inl l, fun _ => ⟨hA, cur, blk_below hg hb l, by omega⟩⟩
end Go.Proofs.Ytnifihdnpmacjaa
