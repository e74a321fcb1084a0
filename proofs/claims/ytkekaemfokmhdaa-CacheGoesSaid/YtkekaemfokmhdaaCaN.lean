/-
  The chapter's examples; what a Back that never fails answers; replaced places. Conditions: none beyond each law's own.
-/
import Derived.Test.YtkekaemfokmhdaaCaM
namespace Go.Proofs.Ytkekaemfokmhdaa
set_option linter.unusedVariables false
set_option linter.unusedSimpArgs false
set_option maxRecDepth 100000 in
theorem live_true : w10_live = true := by decide +kernel
/-- a Back that has the six pages and never fails -/
structure Good (b : BackT) : Prop where
  left : b.xLeft < 0
  page : ∀ i : Int, 1 ≤ i → i ≤ 6 → (mget b.xPages i).isSome = true
theorem load_good {b : BackT} (h : Good b) {id : Int} (h1 : 1 ≤ id) (h6 : id ≤ 6) : r10_Back_Load b id = (Option.getD (mget b.xPages id) [], 0, BackT.mk b.xPages b.xLog (b.xCalls ++ [CallD.mk 1 id 0 []]) b.xLeft) := by
  unfold r10_Back_Load
  have := h.left
  rw [if_neg (by omega), if_neg (by omega), bnd_eq, if_pos (h.page id h1 h6)]
theorem save_good {b : BackT} (h : Good b) (id : Int) (t : List UInt8) : r10_Back_Save b id t = (0, BackT.mk (mput b.xPages id t) b.xLog (b.xCalls ++ [CallD.mk 2 id 0 t]) b.xLeft) := by
  unfold r10_Back_Save
  have := h.left
  rw [if_neg (by omega), if_neg (by omega)]
theorem force_good {b : BackT} (h : Good b) (n : Nat) : r10_Back_Force b n = (0, BackT.mk b.xPages (max b.xLog n) (b.xCalls ++ [CallD.mk 3 0 n []]) b.xLeft) := by
  unfold r10_Back_Force
  have := h.left
  rw [if_neg (by omega), if_neg (by omega)]
theorem Good.put {b : BackT} (h : Good b) (id : Int) (t : List UInt8) (n : Nat) (c : List CallD) : Good (BackT.mk (mput b.xPages id t) n c b.xLeft) := ⟨h.left, fun i h1 h6 => by
  show (mget (mput b.xPages id t) i).isSome = true
  rw [mget_put]
  by_cases e : id = i
  · rw [if_pos e]; rfl
  · rw [if_neg e]; exact h.page i h1 h6⟩
theorem Good.same {b : BackT} (h : Good b) (n : Nat) (c : List CallD) : Good (BackT.mk b.xPages n c b.xLeft) := ⟨h.left, h.page⟩
theorem wb_good {b : BackT} (h : Good b) (x : placeT) : (wb b x).1 = 0 ∧ Good (wb b x).2 := by
  unfold wb
  by_cases d : x.xdirty = true
  · rw [if_pos d, force_good h, if_pos rfl]
    split
    · rw [save_good (h.same _ _)]; exact ⟨rfl, (h.same _ _).put _ _ _ _⟩
    · rw [save_good h]; exact ⟨rfl, h.put _ _ _ _⟩
  · rw [if_neg d]; exact ⟨rfl, h⟩
theorem new_good : Good (r10_NewBack 6 (-1)) := by
  refine ⟨by decide +kernel, fun i h1 h6 => ?_⟩
  have : i = 1 ∨ i = 2 ∨ i = 3 ∨ i = 4 ∨ i = 5 ∨ i = 6 := by omega
  rcases this with rfl | rfl | rfl | rfl | rfl | rfl <;> decide +kernel
/-- two places that are not of one page -/
def Dif (p q : placeT) : Prop := p.xfull = true → q.xfull = true → p.xid ≠ q.xid
theorem dif_mid {a c : List placeT} {x y : placeT} (h : (a ++ x :: c).Pairwise Dif) (hy : ∀ p, p ∈ a ∨ p ∈ c → Dif p y ∧ Dif y p) : (a ++ y :: c).Pairwise Dif := by
  obtain ⟨h1, h2, h3⟩ := List.pairwise_append.1 h
  obtain ⟨h4, h5⟩ := List.pairwise_cons.1 h2
  refine List.pairwise_append.2 ⟨h1, List.pairwise_cons.2 ⟨fun q hq => (hy q (.inr hq)).2, h5⟩, fun p hp q hq => ?_⟩
  rcases List.mem_cons.1 hq with e | e
  · rw [e]; exact (hy p (.inl hp)).1
  · exact h3 p hp q (.tail _ e)
theorem dif_of {a c : List placeT} {x : placeT} (h : (a ++ x :: c).Pairwise Dif) {p : placeT} (hp : p ∈ a ∨ p ∈ c) : Dif p x ∧ Dif x p := by
  obtain ⟨h1, h2, h3⟩ := List.pairwise_append.1 h
  obtain ⟨h4, h5⟩ := List.pairwise_cons.1 h2
  rcases hp with hp | hp
  · have := h3 p hp x (.head _); exact ⟨this, fun u v => Ne.symm (this v u)⟩
  · have := h4 p hp; exact ⟨fun u v => Ne.symm (this v u), this⟩
theorem mem_mid {α : Type} {a c : List α} {x p : α} : p ∈ a ++ x :: c ↔ p = x ∨ (p ∈ a ∨ p ∈ c) := by
  rw [List.mem_append, List.mem_cons]
  constructor
  · rintro (h | h | h)
    · exact .inr (.inl h)
    · exact .inl h
    · exact .inr (.inr h)
  · rintro (h | h | h)
    · exact .inr (.inl h)
    · exact .inl h
    · exact .inr (.inr h)
theorem Tch.mem {l m : List placeT} (h : Tch l m) {p : placeT} (hp : p ∈ m) : ∃ q ∈ l, unt q = unt p := by
  have : unt p ∈ m.map unt := List.mem_map.2 ⟨p, hp, rfl⟩
  rw [h] at this
  exact List.mem_map.1 this
theorem Tch.mem2 {l m : List placeT} (h : Tch l m) {p : placeT} (hp : p ∈ l) : ∃ q ∈ m, unt q = unt p := by
  have : unt p ∈ l.map unt := List.mem_map.2 ⟨p, hp, rfl⟩
  rw [← h] at this
  exact List.mem_map.1 this
theorem Tch.len {l m : List placeT} (h : Tch l m) : m.length = l.length := by
  have := congrArg List.length h
  simpa using this
theorem unt_f {p q : placeT} (h : unt p = unt q) : p.xfull = q.xfull ∧ p.xid = q.xid ∧ p.xbytes.ls = q.xbytes.ls ∧ p.xpins = q.xpins ∧ p.xdirty = q.xdirty ∧ p.xlsn = q.xlsn := by
  unfold unt at h
  injection h with h1 h2 h3 h4 h5 h6 h7
  injection h3 with h8
  exact ⟨h1, h2, h8, h4, h6, h7⟩
theorem Tch.dif {l m : List placeT} (h : Tch l m) (hd : l.Pairwise Dif) : m.Pairwise Dif := by
  have e : ∀ q : List placeT, q.Pairwise Dif ↔ (q.map unt).Pairwise Dif := fun q => by
    rw [List.pairwise_map]; exact Iff.rfl
  rw [e, h, ← e]; exact hd
theorem hit_unt {id : Int} {p q : placeT} (h : unt p = unt q) : hit id p = hit id q := by
  obtain ⟨h1, h2, _⟩ := unt_f h
  unfold hit; rw [h1, h2]
theorem Tch.nohit {l m : List placeT} (h : Tch l m) {id : Int} (hn : ∀ p ∈ l, hit id p = false) : ∀ p ∈ m, hit id p = false := fun p hp => by
  obtain ⟨q, hq, e⟩ := h.mem hp
  rw [← hit_unt e]; exact hn q hq
theorem hit_f {id : Int} {p : placeT} : hit id p = false ↔ (p.xfull = true → p.xid ≠ id) := by
  constructor
  · intro h h1 h2; rw [hit_t.2 ⟨h1, h2⟩] at h; cases h
  · intro h; exact Bool.eq_false_iff.2 fun q => h (hit_t.1 q).1 (hit_t.1 q).2
end Go.Proofs.Ytkekaemfokmhdaa
