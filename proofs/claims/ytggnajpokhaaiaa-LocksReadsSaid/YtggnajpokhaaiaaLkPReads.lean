/-
  Reading alone never waits and never dies.
  Conditions: none beyond each law's own.
-/
import Derived.Test.YtggnajpokhaaiaaLkT
import Derived.Test.YtggnajpokhaaiaaLReads
namespace Go.Proofs.Ytggnajpokhaaiaa
set_option linter.unusedVariables false
set_option linter.unusedSimpArgs false
def RdO (l : List rowT) : Prop := ∀ r ∈ l, ∀ y ∈ r.xheld.ls, y.xWrite = false
structure RJ (k : Nat) (m : List rowT) : Prop where
  snd : Sound m
  calm : Calm m
  rd : RdO m
  tot : Tot m ≤ k
theorem rdo_filter {m : List rowT} (h : RdO m) (p : rowT → Bool) : RdO (m.filter p) := fun r hr => h r (List.mem_filter.1 hr).1
theorem rdo_put {m : List rowT} (h : RdO m) (t : Nat) (x : LockD) (hx : x.xWrite = false) : RdO (putR m t x) := fun r hr y hy => by
  unfold putR at hr
  rcases List.mem_append.1 hr with h1 | h1
  · exact h r (List.mem_filter.1 h1).1 y hy
  · rcases List.mem_cons.1 h1 with h2 | h2
    · rw [h2] at hy
      rcases List.mem_append.1 hy with h3 | h3
      · obtain ⟨s, hs, hy2⟩ := List.mem_flatMap.1 h3
        exact h s (List.mem_filter.1 hs).1 y hy2
      · rw [List.mem_singleton.1 h3]; exact hx
    · exact h r (List.mem_filter.1 h2).1 y hy
theorem rd_free {m : List rowT} (h : RdO m) (t : Nat) (x : LockD) (hx : x.xWrite = false) : locks_Table_holders (TableT.mk (Ll.mk m)) t x = [] := by
  rw [holders_told, List.filter_eq_nil_iff.2]
  · rfl
  · intro r hr
    unfold inw
    have : r.xheld.ls.any (clash x) = false := by
      rw [List.any_eq_false]
      intro y hy
      unfold clash
      rw [hx, h r hr y hy]
      simp
    rw [this]
    simp
theorem rd_ask {k : Nat} {m : List rowT} (h : RJ k m) (hk : k < 192) (t : Nat) (x : LockD) (hx : x.xWrite = false) :
    RJ (k + 1) (askM m t x).2.2.2.2 ∧ (((askM m t x).2.2.2.1 = 0 ∧ (askM m t x).1 = 1 ∧ (askM m t x).2.1 = [] ∧ (askM m t x).2.2.1 = []) ∨ ((askM m t x).2.2.2.1 ≠ 0 ∧ span_Check x.xRange ≠ 0)) := by
  have hs := askM_sound h.snd t x
  unfold askM at hs ⊢
  have up : RJ (k + 1) m := ⟨h.snd, h.calm, h.rd, Nat.le_succ_of_le h.tot⟩
  by_cases c1 : span_Check x.xRange = 0
  · rw [if_pos c1] at hs ⊢
    rw [if_neg (by rw [waiting_calm h.snd.up h.calm]; decide)] at hs ⊢
    by_cases c3 : locks_Table_has (TableT.mk (Ll.mk m)) t x = true
    · rw [if_pos c3]; exact ⟨up, .inl ⟨rfl, rfl, rfl, rfl⟩⟩
    · rw [if_neg c3] at hs ⊢
      have ht := h.tot
      rw [if_neg (by omega), if_pos (rd_free h.rd t x hx)] at hs ⊢
      have hc : Calm (putR m t x) := calm_put h.calm t x
      have e1 : gR m t x = putR m t x := live_calm hc t x
      have e2 : gD m t x = [] := by unfold gD; rw [dies_calm hc t x]; rfl
      rw [e1, e2, settle_calm hc] at hs ⊢
      exact ⟨⟨hs, hc, rdo_put h.rd t x hx, by have := (put_tot m h.snd.up t x).1; show Tot (putR m t x) ≤ k + 1; omega⟩, .inl ⟨rfl, rfl, by simp [srt], by simp [srt]⟩⟩
  · rw [if_neg c1]; exact ⟨up, .inr ⟨show (21 : Int) ≠ 0 by decide, c1⟩⟩
theorem rd_release {k : Nat} {m : List rowT} (h : RJ k m) (t : Nat) : RJ k (locks_Table_Release (TableT.mk (Ll.mk m)) t).2.2.xrows.ls := by
  have hs := release_sound h.snd (t := t) (g := (locks_Table_Release (TableT.mk (Ll.mk m)) t).1) (d := (locks_Table_Release (TableT.mk (Ll.mk m)) t).2.1) (r := (locks_Table_Release (TableT.mk (Ll.mk m)) t).2.2) rfl
  have hc : Calm (but t m) := fun r hr => h.calm r (List.mem_filter.1 hr).1
  have e : (locks_Table_Release (TableT.mk (Ll.mk m)) t).2.2.xrows.ls = but t m := by
    unfold locks_Table_Release
    rw [bnd_eq, bnd_eq, drop_told h.snd.up, settle_told, settle_calm hc]
  rw [e] at hs ⊢
  exact ⟨hs, hc, rdo_filter h.rd _, Nat.le_trans (sum_filter _ _) h.tot⟩
theorem rd_loop (b : Bool) : ∀ (l : List OpD) (k : Nat) (m : List rowT), RJ k m → k + l.length ≤ 60 → ∃ m', w16_LocksReads_L0 b l m = Sum.inl m' ∧ RJ 60 m' := by
  intro l
  induction l with
  | nil =>
    intro k m h hk
    have h1 := h.tot
    simp only [List.length_nil] at hk
    exact ⟨m, rfl, ⟨h.snd, h.calm, h.rd, by omega⟩⟩
  | cons o l ih =>
    intro k m h hk
    simp only [List.length_cons] at hk
    rw [w16_LocksReads_L0]
    by_cases c : o.xDo = 0
    · rw [if_pos c, bnd_eq, ask_told h.snd]
      simp only
      obtain ⟨hj, h1 | h1⟩ := rd_ask h (by omega) o.xTxn (LockD.mk o.xLock.xRange false) rfl
      · rw [if_pos h1.1, if_pos h1.2.1, if_neg (by rw [h1.2.2.1, h1.2.2.2]; decide)]
        exact ih (k + 1) _ hj (by omega)
      · rw [if_neg h1.1, bnd_eq, if_neg h1.2]
        exact ih (k + 1) _ hj (by omega)
    · rw [if_neg c, bnd_eq]
      exact ih k _ (rd_release h o.xTxn) (by omega)
theorem T_LocksReads (l : List OpD) : w16_LocksReads l = true := by
  unfold w16_LocksReads
  rw [bnd_eq, live_true]
  by_cases c : ((l.length : Nat) : Int) > 60
  · rw [if_pos c]; rfl
  · rw [if_neg c]
    obtain ⟨m, e, h⟩ := rd_loop true l 0 [] ⟨sound_nil, fun r hr => (by cases hr), fun r hr => (by cases hr), Nat.zero_le _⟩ (by omega)
    rw [e, lp_inl, if_pos rfl, bnd_eq, Waiting_told, List.filter_eq_nil_iff.2 (fun r hr => by rw [h.calm r hr]; decide)]
    rfl
end Go.Proofs.Ytggnajpokhaaiaa
