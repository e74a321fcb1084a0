/-
  What asking does, as mathematics. Conditions: none beyond each law's own.
-/
import Derived.Test.YtggnajpokhaaiaaLkQ
namespace Go.Proofs.Ytggnajpokhaaiaa
set_option linter.unusedVariables false
set_option linter.unusedSimpArgs false
def gR (m : List rowT) (t : Nat) (x : LockD) : List rowT := (putR m t x).filter fun r => !dies t x r
def gD (m : List rowT) (t : Nat) (x : LockD) : List Nat := List.map (fun q : rowT => q.xtxn) ((putR m t x).filter (dies t x))
def askM (m : List rowT) (t : Nat) (x : LockD) : Int × List Nat × List Nat × Int × List rowT :=
  if span_Check x.xRange = 0 then
    if locks_Table_waiting (TableT.mk (Ll.mk m)) t = true then (0, [], [], 4, m)
    else if locks_Table_has (TableT.mk (Ll.mk m)) t x = true then (1, [], [], 0, m)
    else if 192 ≤ Tot m then (3, [], [], 0, m)
    else if locks_Table_holders (TableT.mk (Ll.mk m)) t x = [] then
      (1, srt (locks_Table_settle_L0 (Wt (gR m t x) + 1) (gR m t x) [] (gD m t x)).2.1, srt (locks_Table_settle_L0 (Wt (gR m t x) + 1) (gR m t x) [] (gD m t x)).2.2, 0, (locks_Table_settle_L0 (Wt (gR m t x) + 1) (gR m t x) [] (gD m t x)).1)
    else if List.getD (locks_Table_holders (TableT.mk (Ll.mk m)) t x) 0 default < t then (3, [], [], 0, m)
    else (2, [], [], 0, waitR m t x)
  else (0, [], [], 21, m)
theorem ask_told {m : List rowT} (h : Sound m) (t : Nat) (x : LockD) : locks_Table_Ask (TableT.mk (Ll.mk m)) t x = ((askM m t x).1, (askM m t x).2.1, (askM m t x).2.2.1, (askM m t x).2.2.2.1, TableT.mk (Ll.mk (askM m t x).2.2.2.2)) := by
  unfold locks_Table_Ask askM
  simp only [bnd_eq]
  by_cases c1 : span_Check x.xRange = 0
  · rw [if_pos c1, if_pos c1]
    by_cases c2 : locks_Table_waiting (TableT.mk (Ll.mk m)) t = true
    · rw [if_pos c2, if_pos c2]
    · rw [if_neg c2, if_neg c2]
      by_cases c3 : locks_Table_has (TableT.mk (Ll.mk m)) t x = true
      · rw [if_pos c3, if_pos c3]
      · rw [if_neg c3, if_neg c3, count_told h.tot]
        by_cases c4 : 192 ≤ Tot m
        · rw [if_pos (by omega), if_pos c4]
        · rw [if_neg (by omega), if_neg c4]
          by_cases c5 : locks_Table_holders (TableT.mk (Ll.mk m)) t x = []
          · rw [if_pos (by rw [c5]; rfl), if_pos c5, grant_told h.up]
            simp only
            rw [settle_told]
            rfl
          · rw [if_neg (show ¬ ((List.length (locks_Table_holders (TableT.mk (Ll.mk m)) t x) : Nat) : Int) = 0 from fun e => c5 (List.eq_nil_of_length_eq_zero (Int.ofNat.inj e))), if_neg c5]
            by_cases c6 : List.getD (locks_Table_holders (TableT.mk (Ll.mk m)) t x) 0 default < t
            · rw [if_pos (by omega), if_pos c6]
            · rw [if_neg (by omega), if_neg c6]
              rcases find_two h.up t with ⟨a, p, q, rfl, hp, ha, hq, hf⟩ | ⟨a, q, rfl, ha, hq, hf⟩
              · rw [hf, if_pos rfl, wait_a x hp ha hq]
                simp only [Int.toNat_natCast, gd, stt]
                rw [← hp]
              · have e2 : List.drop a.length (a ++ q) = q := List.drop_left' rfl
                have e3 : List.take a.length (a ++ q) = a := List.take_left' rfl
                rw [hf, if_neg (by simp), wait_b x ha hq]
                simp only [Int.toNat_natCast, e2, e3, gd, stt]
  · rw [if_neg c1, if_neg c1]
theorem tot_wait {m : List rowT} (hs : Up m) (t : Nat) (x : LockD) (hw : locks_Table_waiting (TableT.mk (Ll.mk m)) t ≠ true) : Up (waitR m t x) ∧ (Ne m → Ne (waitR m t x)) ∧ Tot (waitR m t x) = Tot m + 1 := by
  unfold locks_Table_waiting at hw
  rw [bnd_eq] at hw
  rcases find_two hs t with ⟨a, p, q, rfl, hp, ha, hq, hf⟩ | ⟨a, q, rfl, ha, hq, hf⟩
  · rw [hf, if_pos rfl, bnd_eq] at hw
    simp only [Int.toNat_natCast, gd] at hw
    rw [wait_a x hp ha hq]
    have h := List.pairwise_append.1 hs
    have h2 := List.pairwise_cons.1 h.2.1
    refine ⟨up_mid (List.pairwise_append.2 ⟨h.1, h2.2, fun r hr s hs => h.2.2 r hr s (.tail _ hs)⟩) rfl ha hq, fun hn r hr => ?_, ?_⟩
    · rcases List.mem_append.1 hr with h1 | h1
      · exact hn r (List.mem_append_left _ h1)
      · rcases List.mem_cons.1 h1 with h2 | h2
        · rw [h2]; unfold wt1; rw [if_pos rfl]; omega
        · exact hn r (List.mem_append_right _ (.tail _ h2))
    · unfold Tot wt1; simp only [List.map_append, List.map_cons, List.sum_append, List.sum_cons]; rw [if_neg hw]; simp; omega
  · rw [wait_b x ha hq]
    refine ⟨up_mid hs rfl ha hq, fun hn r hr => ?_, ?_⟩
    · rcases List.mem_append.1 hr with h1 | h1
      · exact hn r (List.mem_append_left _ h1)
      · rcases List.mem_cons.1 h1 with h2 | h2
        · rw [h2]; unfold wt1; rw [if_pos rfl]; omega
        · exact hn r (List.mem_append_right _ h2)
    · unfold Tot wt1; simp only [List.map_append, List.map_cons, List.sum_append, List.sum_cons]; simp; omega
theorem askM_sound {m : List rowT} (h : Sound m) (t : Nat) (x : LockD) : Sound (askM m t x).2.2.2.2 := by
  unfold askM
  by_cases c1 : span_Check x.xRange = 0
  · rw [if_pos c1]
    by_cases c2 : locks_Table_waiting (TableT.mk (Ll.mk m)) t = true
    · rw [if_pos c2]; exact h
    · rw [if_neg c2]
      by_cases c3 : locks_Table_has (TableT.mk (Ll.mk m)) t x = true
      · rw [if_pos c3]; exact h
      · rw [if_neg c3]
        by_cases c4 : 192 ≤ Tot m
        · rw [if_pos c4]; exact h
        · rw [if_neg c4]
          by_cases c5 : locks_Table_holders (TableT.mk (Ll.mk m)) t x = []
          · rw [if_pos c5]
            obtain ⟨h2, h3⟩ := put_tot m h.up t x
            have h4 : Ne (putR m t x) := ne_put h.up h.ne t x
            have h5 : Tot (gR m t x) ≤ 192 := Nat.le_trans (sum_filter _ _) (show Tot (putR m t x) ≤ 192 by omega)
            have h6 : Ne (gR m t x) := ne_filter h4 _
            exact settle_sound ⟨(up_put h.up t x).filter _, show List.length (gR m t x) ≤ 999999 by have := ne_len h6; omega, show Tot (gR m t x) ≤ 1000000 by omega⟩ h6 h5 _ _
          · rw [if_neg c5]
            by_cases c6 : List.getD (locks_Table_holders (TableT.mk (Ll.mk m)) t x) 0 default < t
            · rw [if_pos c6]; exact h
            · rw [if_neg c6]
              obtain ⟨w1, w2, w3⟩ := tot_wait h.up t x c2
              exact ⟨w1, w2 h.ne, by show Tot (waitR m t x) ≤ 192; omega⟩
  · rw [if_neg c1]; exact h
theorem ask_sound {m : List rowT} (h : Sound m) {t : Nat} {x : LockD} {s e : Int} {g d : List Nat} {r : TableT} (hr : locks_Table_Ask (TableT.mk (Ll.mk m)) t x = (s, g, d, e, r)) : Sound r.xrows.ls := by
  rw [ask_told h] at hr
  have e : r = _ := (congrArg (fun q => q.2.2.2.2) hr).symm
  rw [e]
  exact askM_sound h t x
theorem flen (p : rowT → Bool) : ∀ l : List rowT, List.length (l.filter p) + List.length (l.filter fun r => !p r) = List.length l
  | [] => rfl
  | a :: l => by
    have ih := flen p l
    cases h : p a with
    | true => rw [List.filter_cons_of_pos h, List.filter_cons_of_neg (by rw [h]; decide)]; simp only [List.length_cons]; omega
    | false => rw [List.filter_cons_of_neg (by rw [h]; decide), List.filter_cons_of_pos (by rw [h]; rfl)]; simp only [List.length_cons]; omega
theorem settle_lens {m : List rowT} (hf : Fit m) (g d : List Nat) : List.length (locks_Table_settle_L0 (Wt m + 1) m g d).2.1 ≤ List.length g + Wt m ∧ List.length (locks_Table_settle_L0 (Wt m + 1) m g d).2.2 ≤ List.length d + List.length m := by
  have h := settle_ind (I := fun l g' d' => List.length g' + Wt l ≤ List.length g + Wt m ∧ List.length d' + List.length l ≤ List.length d + List.length m) (fun l g' d' r hf hI hr hw _ => by
    obtain ⟨h1, _, h3⟩ := put_wait hf.up hr hw r.xwant
    have h4 : Wt ((putR l r.xtxn r.xwant).filter fun s => !dies r.xtxn r.xwant s) ≤ Wt (putR l r.xtxn r.xwant) := sum_filter _ _
    have h5 := flen (dies r.xtxn r.xwant) (putR l r.xtxn r.xwant)
    refine ⟨?_, ?_⟩
    · rw [List.length_append]; simp only [List.length_cons, List.length_nil]; omega
    · rw [List.length_append, List.length_map]; omega) (Wt m + 1) m g d (by omega) hf ⟨Nat.le_refl _, Nat.le_refl _⟩
  have h1 := h.1.1
  have h2 := h.1.2
  exact ⟨by omega, by omega⟩
theorem srt_len (l : List Nat) : List.length (srt l) = List.length l := (srt_perm l).length_eq
theorem release_lens {m : List rowT} (h : Sound m) {t : Nat} {g d : List Nat} {r : TableT} (hr : locks_Table_Release (TableT.mk (Ll.mk m)) t = (g, d, r)) : List.length g ≤ 400 ∧ List.length d ≤ 400 := by
  unfold locks_Table_Release at hr
  rw [bnd_eq, bnd_eq, drop_told h.up, settle_told] at hr
  have e1 : g = _ := (congrArg (fun q => q.1) hr).symm
  have e2 : d = _ := (congrArg (fun q => q.2.1) hr).symm
  rw [e1, e2]
  have hb : Fit (but t m) := h.fit.filter _
  have hs := settle_lens hb [] []
  have h1 : Wt (but t m) ≤ Wt m := sum_filter _ _
  have h2 : List.length (but t m) ≤ List.length m := List.length_filter_le _ _
  have h3 := h.len
  have h4 := h.tot
  have h5 := wt_tot m
  refine ⟨?_, ?_⟩
  · show List.length (srt (locks_Table_settle_L0 (Wt (but t m) + 1) (but t m) [] []).2.1) ≤ 400
    rw [srt_len]; have := hs.1; simp only [List.length_nil] at this; omega
  · show List.length (srt (locks_Table_settle_L0 (Wt (but t m) + 1) (but t m) [] []).2.2) ≤ 400
    rw [srt_len]; have := hs.2; simp only [List.length_nil] at this; omega
theorem askM_lens {m : List rowT} (h : Sound m) (t : Nat) (x : LockD) : List.length (askM m t x).2.1 ≤ 400 ∧ List.length (askM m t x).2.2.1 ≤ 400 := by
  unfold askM
  by_cases c1 : span_Check x.xRange = 0
  · rw [if_pos c1]
    by_cases c2 : locks_Table_waiting (TableT.mk (Ll.mk m)) t = true
    · rw [if_pos c2]; exact ⟨Nat.zero_le _, Nat.zero_le _⟩
    · rw [if_neg c2]
      by_cases c3 : locks_Table_has (TableT.mk (Ll.mk m)) t x = true
      · rw [if_pos c3]; exact ⟨Nat.zero_le _, Nat.zero_le _⟩
      · rw [if_neg c3]
        by_cases c4 : 192 ≤ Tot m
        · rw [if_pos c4]; exact ⟨Nat.zero_le _, Nat.zero_le _⟩
        · rw [if_neg c4]
          by_cases c5 : locks_Table_holders (TableT.mk (Ll.mk m)) t x = []
          · rw [if_pos c5]
            obtain ⟨h2, h3⟩ := put_tot m h.up t x
            have h4 := putR_len m h.up t x
            have h5 := h.len
            have h6 := wt_tot m
            have h7 := flen (dies t x) (putR m t x)
            have h8 : Wt (gR m t x) ≤ Wt (putR m t x) := sum_filter _ _
            have h9 : List.length (gR m t x) = List.length ((putR m t x).filter fun r => !dies t x r) := rfl
            have h10 : Tot (gR m t x) ≤ Tot (putR m t x) := sum_filter _ _
            have hf : Fit (gR m t x) := ⟨(up_put h.up t x).filter _, show List.length (gR m t x) ≤ 999999 by omega, show Tot (gR m t x) ≤ 1000000 by omega⟩
            have hs := settle_lens hf [] (gD m t x)
            have h11 : List.length (gD m t x) = List.length ((putR m t x).filter (dies t x)) := List.length_map ..
            simp only [srt_len]
            refine ⟨?_, ?_⟩
            · have := hs.1; simp only [List.length_nil] at this; omega
            · have := hs.2; omega
          · rw [if_neg c5]
            by_cases c6 : List.getD (locks_Table_holders (TableT.mk (Ll.mk m)) t x) 0 default < t
            · rw [if_pos c6]; exact ⟨Nat.zero_le _, Nat.zero_le _⟩
            · rw [if_neg c6]; exact ⟨Nat.zero_le _, Nat.zero_le _⟩
  · rw [if_neg c1]; exact ⟨Nat.zero_le _, Nat.zero_le _⟩
theorem ask_lens {m : List rowT} (h : Sound m) {t : Nat} {x : LockD} {s e : Int} {g d : List Nat} {r : TableT} (hr : locks_Table_Ask (TableT.mk (Ll.mk m)) t x = (s, g, d, e, r)) : List.length g ≤ 400 ∧ List.length d ≤ 400 := by
  rw [ask_told h] at hr
  have e1 : g = _ := (congrArg (fun q => q.2.1) hr).symm
  have e2 : d = _ := (congrArg (fun q => q.2.2.1) hr).symm
  rw [e1, e2]
  exact askM_lens h t x
theorem sound_nil : Sound [] := ⟨List.Pairwise.nil, fun r hr => (by cases hr), Nat.zero_le _⟩
end Go.Proofs.Ytggnajpokhaaiaa
