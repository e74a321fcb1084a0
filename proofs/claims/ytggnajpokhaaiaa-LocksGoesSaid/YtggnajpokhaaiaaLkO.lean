/-
  A step of settling: who waited waits no more. Conditions: none beyond each law's own.
-/
import Derived.Test.YtggnajpokhaaiaaLkN
namespace Go.Proofs.Ytggnajpokhaaiaa
set_option linter.unusedVariables false
set_option linter.unusedSimpArgs false
def wt1 (r : rowT) : Nat := if r.xwaits = true then 1 else 0
def Wt (l : List rowT) : Nat := (l.map wt1).sum
def Tot (l : List rowT) : Nat := (l.map fun r => List.length r.xheld.ls + wt1 r).sum
theorem sum_filter {f : rowT → Nat} (p : rowT → Bool) : ∀ l : List rowT, ((l.filter p).map f).sum ≤ (l.map f).sum
  | [] => Nat.le_refl _
  | a :: l => by
    have ih := sum_filter (f := f) p l
    rw [List.filter_cons]
    by_cases h : p a = true
    · rw [if_pos h]; simp only [List.map_cons, List.sum_cons]; omega
    · rw [if_neg h]; simp only [List.map_cons, List.sum_cons]; omega
theorem sum_mem9 {f : rowT → Nat} {r : rowT} : ∀ {l : List rowT}, r ∈ l → f r ≤ (l.map f).sum
  | a :: l, h => by
    simp only [List.map_cons, List.sum_cons]
    rcases List.mem_cons.1 h with e | e
    · rw [e]; omega
    · have := sum_mem9 (f := f) e; omega
theorem wt_tot (l : List rowT) : Wt l ≤ Tot l := by
  unfold Wt Tot
  induction l with
  | nil => exact Nat.le_refl _
  | cons a l ih => simp only [List.map_cons, List.sum_cons]; omega
structure Fit (l : List rowT) : Prop where
  up : Up l
  len : List.length l ≤ 999999
  tot : Tot l ≤ 1000000
theorem Fit.hd {l : List rowT} (h : Fit l) : Hd l := fun r hr => by
  have := sum_mem9 (f := fun r : rowT => List.length r.xheld.ls + wt1 r) hr
  have := h.tot
  unfold Tot at this
  omega
theorem Fit.wt {l : List rowT} (h : Fit l) : Wt l ≤ 1000000 := Nat.le_trans (wt_tot l) h.tot
theorem Fit.filter {l : List rowT} (h : Fit l) (p : rowT → Bool) : Fit (l.filter p) := ⟨h.up.filter p, Nat.le_trans (List.length_filter_le p l) h.len, Nat.le_trans (sum_filter p l) h.tot⟩
theorem next_mem {m : List rowT} {a : AskD} (h : locks_Table_next (TableT.mk (Ll.mk m)) = (a, true)) : ∃ r ∈ m, r.xwaits = true ∧ r.xtxn = a.xTxn ∧ r.xwant = a.xLock ∧ locks_Table_holders (TableT.mk (Ll.mk m)) a.xTxn a.xLock = [] := by
  have go : ∀ l : List rowT, (∀ r ∈ l, r ∈ m) → lp (locks_Table_next_L0 (TableT.mk (Ll.mk m)) l) (fun _ => (AskD.mk 0 (LockD.mk (RangeD.mk ([]) ([])) false), false)) = (a, true) → ∃ r ∈ m, r.xwaits = true ∧ r.xtxn = a.xTxn ∧ r.xwant = a.xLock ∧ locks_Table_holders (TableT.mk (Ll.mk m)) a.xTxn a.xLock = [] := by
    intro l
    induction l with
    | nil => intro _ h; exact Bool.noConfusion (show false = true from congrArg Prod.snd h)
    | cons r l ih =>
      intro hm h
      rw [locks_Table_next_L0] at h
      by_cases h1 : r.xwaits = true
      · rw [if_pos h1, bnd_eq] at h
        by_cases h2 : (((locks_Table_holders (TableT.mk (Ll.mk m)) r.xtxn r.xwant).length : Nat) : Int) = 0
        · rw [if_pos h2] at h
          have e : AskD.mk r.xtxn r.xwant = a := congrArg Prod.fst h
          subst e
          exact ⟨r, hm r (.head _), h1, rfl, rfl, List.eq_nil_of_length_eq_zero (Int.ofNat.inj h2)⟩
        · rw [if_neg h2] at h; exact ih (fun s hs => hm s (.tail _ hs)) h
      · rw [if_neg h1] at h; exact ih (fun s hs => hm s (.tail _ hs)) h
  exact go m (fun _ h => h) h
theorem putR_len (l : List rowT) (hs : Up l) (t : Nat) (x : LockD) : List.length (putR l t x) ≤ List.length l + 1 := by
  rcases find_two hs t with ⟨a, p, q, rfl, hp, ha, hq, _⟩ | ⟨a, q, rfl, ha, hq, _⟩
  · rw [put_a x hp ha hq]; simp only [List.length_append, List.length_cons]; omega
  · rw [put_b x ha hq]; simp only [List.length_append, List.length_cons]; omega
theorem put_tot (l : List rowT) (hs : Up l) (t : Nat) (x : LockD) : Tot (putR l t x) ≤ Tot l + 1 ∧ Wt (putR l t x) ≤ Wt l := by
  rcases find_two hs t with ⟨a, p, q, rfl, hp, ha, hq, _⟩ | ⟨a, q, rfl, ha, hq, _⟩
  · rw [put_a x hp ha hq]; unfold Tot Wt wt1; simp only [List.map_append, List.map_cons, List.sum_append, List.sum_cons, List.length_append, List.length_cons, List.length_nil]; simp; omega
  · rw [put_b x ha hq]; unfold Tot Wt wt1; simp only [List.map_append, List.map_cons, List.sum_append, List.sum_cons, List.length_append, List.length_cons, List.length_nil]; constructor <;> simp <;> omega
theorem put_wait {l : List rowT} (hs : Up l) {r : rowT} (hr : r ∈ l) (hw : r.xwaits = true) (x : LockD) : List.length (putR l r.xtxn x) = List.length l ∧ Tot (putR l r.xtxn x) = Tot l ∧ Wt (putR l r.xtxn x) + 1 = Wt l := by
  rcases find_two hs r.xtxn with ⟨a, p, q, rfl, hp, ha, hq, _⟩ | ⟨a, q, rfl, ha, hq, _⟩
  · have e : p = r := up_inj hs (by simp) hr hp
    subst e
    rw [put_a x rfl ha hq]
    refine ⟨by simp, ?_, ?_⟩
    · unfold Tot wt1; simp only [List.map_append, List.map_cons, List.sum_append, List.sum_cons, List.length_append, List.length_cons, List.length_nil, hw]; simp <;> omega
    · unfold Wt wt1; simp only [List.map_append, List.map_cons, List.sum_append, List.sum_cons, hw]; simp <;> omega
  · rcases List.mem_append.1 hr with h | h
    · exact absurd (ha r h) (Nat.lt_irrefl _)
    · exact absurd (hq r h) (Nat.lt_irrefl _)
theorem settle_step {m : List rowT} (hf : Fit m) {a : AskD} (hn : locks_Table_next (TableT.mk (Ll.mk m)) = (a, true)) {c : changeT} {r0 : TableT} {r1 : changeT} (hg : locks_Table_grant (TableT.mk (Ll.mk m)) a.xTxn a.xLock c = (r0, r1)) :
    Fit r0.xrows.ls ∧ Wt r0.xrows.ls + 1 ≤ Wt m ∧ r1.xgranted.ls = c.xgranted.ls ∧ List.length r1.xdead.ls ≤ List.length c.xdead.ls + 1000000 := by
  obtain ⟨r, hr, hw, ht, hx, _⟩ := next_mem hn
  rw [grant_told hf.up] at hg
  obtain ⟨rfl, rfl⟩ : _ = r0 ∧ _ = r1 := ⟨congrArg Prod.fst hg, congrArg Prod.snd hg⟩
  rw [← ht, ← hx]
  obtain ⟨h1, h2, h3⟩ := put_wait hf.up hr hw r.xwant
  have hp : Fit (putR m r.xtxn r.xwant) := ⟨up_put hf.up _ _, by rw [h1]; exact hf.len, by rw [h2]; exact hf.tot⟩
  refine ⟨hp.filter _, ?_, rfl, ?_⟩
  · have := sum_filter (f := wt1) (fun s => !dies r.xtxn r.xwant s) (putR m r.xtxn r.xwant)
    show Wt (List.filter (fun s => !dies r.xtxn r.xwant s) (putR m r.xtxn r.xwant)) + 1 ≤ _
    unfold Wt at this h3 ⊢
    omega
  · show List.length (c.xdead.ls ++ _) ≤ _
    rw [List.length_append, List.length_map]
    have := List.length_filter_le (dies r.xtxn r.xwant) (putR m r.xtxn r.xwant)
    have := hp.len
    omega
end Go.Proofs.Ytggnajpokhaaiaa
