/-
  Tables that may be; what dropping and asking leave. Conditions: none beyond each law's own.
-/
import Derived.Test.YtggnajpokhaaiaaLd
namespace Go.Proofs.Ytggnajpokhaaiaa
set_option linter.unusedVariables false
set_option linter.unusedSimpArgs false
theorem pj5 {α β γ δ ε : Type} {a x : α} {b y : β} {c z : γ} {d u : δ} {e v : ε} (h : (a, b, c, d, e) = (x, y, z, u, v)) : a = x ∧ b = y ∧ c = z ∧ d = u ∧ e = v := ⟨(pj2 h).1, pj4 (pj2 h).2⟩
def Ne (l : List rowT) : Prop := ∀ r ∈ l, 1 ≤ List.length r.xheld.ls + wt1 r
structure Sound (l : List rowT) : Prop where
  up : Up l
  ne : Ne l
  tot : Tot l ≤ 192
theorem ne_len : ∀ {l : List rowT}, Ne l → List.length l ≤ Tot l
  | [], _ => Nat.le_refl _
  | a :: l, h => by
    have h1 := h a (.head _)
    have h2 := ne_len (l := l) fun r hr => h r (.tail _ hr)
    unfold Tot at h2 ⊢
    simp only [List.length_cons, List.map_cons, List.sum_cons]
    omega
theorem Sound.len {l : List rowT} (h : Sound l) : List.length l ≤ 192 := Nat.le_trans (ne_len h.ne) h.tot
theorem Sound.fit {l : List rowT} (h : Sound l) : Fit l := ⟨h.up, by have := h.len; omega, by have := h.tot; omega⟩
theorem Sound.hd {l : List rowT} (h : Sound l) : Hd l := h.fit.hd
theorem drop_step {m : List rowT} (h : Sound m) {t : Nat} {r0 : TableT} (hr : locks_Table_drop (TableT.mk (Ll.mk m)) t = r0) : Fit r0.xrows.ls ∧ List.length r0.xrows.ls ≤ 192 ∧ Wt r0.xrows.ls ≤ 192 := by
  rw [drop_told h.up] at hr
  subst hr
  refine ⟨h.fit.filter _, Nat.le_trans (List.length_filter_le _ m) h.len, ?_⟩
  have h1 := wt_tot m
  have h2 := h.tot
  have h3 := sum_filter (f := wt1) (fun r => decide (r.xtxn ≠ t)) m
  show Wt (but t m) ≤ _
  unfold Wt at h1 h3 ⊢
  unfold but
  omega
theorem ask_step {m : List rowT} (h : Sound m) {t : Nat} {x : LockD} {c : changeT} {r0 : TableT} {r1 : changeT} (hg : locks_Table_grant (TableT.mk (Ll.mk m)) t x c = (r0, r1)) :
    Fit r0.xrows.ls ∧ List.length r0.xrows.ls ≤ 193 ∧ Wt r0.xrows.ls ≤ 193 ∧ r1.xgranted.ls = c.xgranted.ls ∧ List.length r1.xdead.ls ≤ List.length c.xdead.ls + 193 := by
  rw [grant_told h.up] at hg
  obtain ⟨rfl, rfl⟩ : _ = r0 ∧ _ = r1 := ⟨congrArg Prod.fst hg, congrArg Prod.snd hg⟩
  have h1 := putR_len m h.up t x
  obtain ⟨h2, h3⟩ := put_tot m h.up t x
  have h4 := h.len
  have h5 := h.tot
  have hp : Fit (putR m t x) := ⟨up_put h.up _ _, by omega, by omega⟩
  have h6 := List.length_filter_le (fun r => !dies t x r) (putR m t x)
  have h7 := List.length_filter_le (dies t x) (putR m t x)
  have h8 := sum_filter (f := wt1) (fun r => !dies t x r) (putR m t x)
  have h9 := wt_tot m
  refine ⟨hp.filter _, ?_, ?_, rfl, ?_⟩
  · show List.length (List.filter (fun r => !dies t x r) (putR m t x)) ≤ _; omega
  · show Wt (List.filter (fun r => !dies t x r) (putR m t x)) ≤ _
    unfold Wt at h3 h8 h9 ⊢
    omega
  · show List.length (c.xdead.ls ++ _) ≤ _
    rw [List.length_append, List.length_map]
    omega
end Go.Proofs.Ytggnajpokhaaiaa
