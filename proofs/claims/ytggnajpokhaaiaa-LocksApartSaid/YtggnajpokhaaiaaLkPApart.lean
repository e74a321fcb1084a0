/-
  No two locks that are held are in one another's way; who waits is elder.
  Conditions: none beyond each law's own.
-/
import Derived.Test.YtggnajpokhaaiaaLkV
import Derived.Test.YtggnajpokhaaiaaLApart
namespace Go.Proofs.Ytggnajpokhaaiaa
set_option linter.unusedVariables false
set_option linter.unusedSimpArgs false
theorem inWay_told (x y : LockD) : w16_inWay x y = clash x y := by
  unfold w16_inWay clash
  rw [bnd_eq]
  by_cases h : (span_Meet x.xRange y.xRange).2 = true
  · rw [if_pos h, h]
    by_cases h2 : x.xWrite = true
    · rw [if_pos h2, h2]; rfl
    · rw [if_neg h2, Bool.eq_false_iff.2 h2]; rfl
  · rw [if_neg h, Bool.eq_false_iff.2 h]; rfl
theorem old_of {m : List rowT} {t : Nat} {y : LockD} (h : y ∈ old m t) : ∃ r ∈ m, r.xtxn = t ∧ y ∈ r.xheld.ls := by
  obtain ⟨r, hr, hy2⟩ := List.mem_flatMap.1 h
  exact ⟨r, (List.mem_filter.1 hr).1, of_decide_eq_true (List.mem_filter.1 hr).2, hy2⟩
theorem s3 {a b : Nat} {x : LockD} : ∀ l : List LockD, (b = a ∨ ∀ y ∈ l, clash x y = false) → w16_sound_L3 a b x l = Sum.inl ()
  | [], _ => rfl
  | y :: l, h => by
    rw [w16_sound_L3]
    by_cases c : b = a
    · rw [if_pos (by rw [c])]; exact s3 l (.inl c)
    · rcases h with h | h
      · exact absurd h c
      · rw [if_neg (show ¬ ((b : Nat) : Int) = (a : Int) by omega), bnd_eq, inWay_told, if_neg (by rw [h y (.head _)]; decide)]; exact s3 l (.inr fun z hz => h z (.tail _ hz))
theorem s2 {m : List rowT} (hu : Up m) {a b : Nat} : ∀ l : List LockD, (∀ x ∈ l, b = a ∨ ∀ y ∈ old m a, clash x y = false) → w16_sound_L2 (TableT.mk (Ll.mk m)) a b l = Sum.inl ()
  | [], _ => rfl
  | x :: l, h => by
    rw [w16_sound_L2, bnd_eq, Holds_told hu, s3 _ (h x (.head _)), lpS_inl]
    exact s2 hu l fun z hz => h z (.tail _ hz)
theorem s1 {m : List rowT} (hu : Up m) (h : Apart m) (b : Nat) : ∀ l : List Nat, w16_sound_L1 (TableT.mk (Ll.mk m)) b l = Sum.inl ()
  | [] => rfl
  | a :: l => by
    rw [w16_sound_L1, bnd_eq, Holds_told hu, s2 hu _ (fun x hx => by
      by_cases c : b = a
      · exact .inl c
      · refine .inr fun y hy => ?_
        obtain ⟨r, hr, e, hx2⟩ := old_of hx
        obtain ⟨s, hs, e2, hy2⟩ := old_of hy
        exact h.held r hr s hs (by rw [e, e2]; exact c) x hx2 y hy2), lpS_inl]
    exact s1 hu h b l
theorem s0 {m : List rowT} (hu : Up m) (h : Apart m) (ts : List Nat) : ∀ l : List Nat, w16_sound_L0 (TableT.mk (Ll.mk m)) ts l = Sum.inl ()
  | [] => rfl
  | b :: l => by rw [w16_sound_L0, s1 hu h b ts, lpS_inl]; exact s0 hu h ts l
theorem s6 {w : AskD} {b : Nat} : ∀ (l : List LockD) (acc : Bool), (b ≠ w.xTxn → ∀ y ∈ l, clash w.xLock y = true → w.xTxn < b) → w16_sound_L6 w b l acc = Sum.inl (acc || (decide (b ≠ w.xTxn) && l.any (clash w.xLock)))
  | [], acc, _ => by simp [w16_sound_L6]
  | y :: l, acc, h => by
    rw [w16_sound_L6]
    by_cases c : b = w.xTxn
    · rw [if_pos (by rw [c]), s6 l acc (fun hn => absurd c hn)]; simp [c]
    · have ih := fun acc => s6 l acc (fun hn z hz => h hn z (.tail _ hz))
      rw [if_neg (show ¬ ((b : Nat) : Int) = (w.xTxn : Int) by omega), bnd_eq, inWay_told]
      by_cases c2 : clash w.xLock y = true
      · have := h c y (.head _) c2
        rw [if_pos c2, if_neg (by omega), ih true, List.any_cons, c2, decide_eq_true c]; simp
      · rw [if_neg c2, ih acc, List.any_cons, Bool.eq_false_iff.2 c2]; simp
theorem s5 {m : List rowT} (hu : Up m) {w : AskD} (h : ∀ r ∈ m, r.xtxn ≠ w.xTxn → ∀ y ∈ r.xheld.ls, clash w.xLock y = true → w.xTxn < r.xtxn) : ∀ (l : List Nat) (acc : Bool), w16_sound_L5 (TableT.mk (Ll.mk m)) w l acc = Sum.inl (acc || l.any fun b => decide (b ≠ w.xTxn) && (old m b).any (clash w.xLock))
  | [], acc => by simp [w16_sound_L5]
  | b :: l, acc => by
    rw [w16_sound_L5, bnd_eq, Holds_told hu, s6 _ _ (fun hn y hy hc => by
      obtain ⟨r, hr, e, hy2⟩ := old_of hy
      have := h r hr (by rw [e]; exact hn) y hy2 hc
      rw [e] at this; exact this), lpS_inl, s5 hu h l, List.any_cons, Bool.or_assoc]
structure AJ (m : List rowT) : Prop where
  ej : EJ m
  ap : Apart m
theorem s4 {m : List rowT} (h : AJ m) : ∀ l : List AskD, (∀ a ∈ l, ∃ w ∈ m, w.xwaits = true ∧ a = AskD.mk w.xtxn w.xwant) → w16_sound_L4 (TableT.mk (Ll.mk m)) (List.map (fun r : rowT => r.xtxn) m) l = Sum.inl ()
  | [], _ => rfl
  | a :: l, hl => by
    obtain ⟨w, hw, hww, e⟩ := hl a (.head _)
    subst e
    rw [w16_sound_L4, s5 h.ej.snd.up (w := AskD.mk w.xtxn w.xwant) (fun r hr hn y hy hc => h.ap.eld w hw hww r hr hn y hy hc), lpS_inl, Bool.false_or]
    obtain ⟨r, hr, hn, y, hy, hc⟩ := holders_some (h.ej.still w hw hww)
    rw [if_pos (List.any_eq_true.2 ⟨r.xtxn, List.mem_map.2 ⟨r, hr, rfl⟩, by rw [old_mem h.ej.snd.up hr, decide_eq_true (show r.xtxn ≠ (AskD.mk w.xtxn w.xwant).xTxn from hn), List.any_eq_true.2 ⟨y, hy, hc⟩]; rfl⟩)]
    exact s4 h l fun b hb => hl b (.tail _ hb)
theorem sound_true {m : List rowT} (h : AJ m) : w16_sound (TableT.mk (Ll.mk m)) = true := by
  unfold w16_sound
  rw [bnd_eq, Txns_told, s0 h.ej.snd.up h.ap, lp_inl, bnd_eq, Waiting_told, s4 h _ (fun a ha => by
    obtain ⟨w, hw, e⟩ := List.mem_map.1 ha
    exact ⟨w, (List.mem_filter.1 hw).1, (List.mem_filter.1 hw).2, e.symm⟩)]
  rfl
theorem srt_mem {l : List Nat} {n : Nat} : n ∈ srt l ↔ n ∈ l := (srt_perm l).mem_iff
/-- what is told of a step -/
structure Told (g d : List Nat) (m : List rowT) : Prop where
  aj : AJ m
  dead : ∀ n ∈ d, ∀ r ∈ m, r.xtxn ≠ n
  gr : ∀ n ∈ g, ∀ r ∈ m, r.xwaits = true → r.xtxn ≠ n
theorem told_same {m : List rowT} (h : AJ m) : Told [] [] m := ⟨h, fun n hn => (by cases hn), fun n hn => (by cases hn)⟩
theorem apart_wait {m : List rowT} (hs : Up m) (h : Apart m) {t : Nat} {x : LockD} (hh : ¬ List.getD (locks_Table_holders (TableT.mk (Ll.mk m)) t x) 0 default < t) : Apart (waitR m t x) := by
  have hc : ∀ s ∈ waitR m t x, ∀ y ∈ s.xheld.ls, ∃ r ∈ m, r.xtxn = s.xtxn ∧ y ∈ r.xheld.ls := fun s hs2 y hy => by
    unfold waitR at hs2
    rcases List.mem_append.1 hs2 with h1 | h1
    · exact ⟨s, (List.mem_filter.1 h1).1, rfl, hy⟩
    · rcases List.mem_cons.1 h1 with h2 | h2
      · rw [h2] at hy
        obtain ⟨r, hr, e, hy2⟩ := old_of (show y ∈ old m t from hy)
        exact ⟨r, hr, by rw [h2]; exact e, hy2⟩
      · exact ⟨s, (List.mem_filter.1 h2).1, rfl, hy⟩
  have lo : ∀ r ∈ m, r.xtxn ≠ t → ∀ y ∈ r.xheld.ls, clash x y = true → t < r.xtxn := fun r hr hn y hy hcl => by
    have hi : inw t x r = true := by unfold inw; rw [decide_eq_true hn, List.any_eq_true.2 ⟨y, hy, hcl⟩]; rfl
    rw [holders_told] at hh
    have hm : r ∈ m.filter (inw t x) := List.mem_filter.2 ⟨hr, hi⟩
    have hup : Up (m.filter (inw t x)) := hs.filter _
    cases hl : m.filter (inw t x) with
    | nil => rw [hl] at hm; cases hm
    | cons a l =>
      rw [hl] at hm hup hh
      have ha : ¬ a.xtxn < t := hh
      rcases List.mem_cons.1 hm with e | e
      · rw [e] at hn ⊢; omega
      · have := (List.pairwise_cons.1 hup).1 r e; omega
  refine ⟨fun r hr s hs2 hn y hy z hz => ?_, fun w hw hww r hr hn y hy hcl => ?_⟩
  · obtain ⟨r2, hr2, e, hy2⟩ := hc r hr y hy
    obtain ⟨s2, hs3, e2, hz2⟩ := hc s hs2 z hz
    exact h.held r2 hr2 s2 hs3 (by rw [e, e2]; exact hn) y hy2 z hz2
  · obtain ⟨r2, hr2, e, hy2⟩ := hc r hr y hy
    unfold waitR at hw
    rcases List.mem_append.1 hw with h1 | h1
    · have := h.eld w (List.mem_filter.1 h1).1 hww r2 hr2 (by rw [e]; exact hn) y hy2 hcl; omega
    · rcases List.mem_cons.1 h1 with h2 | h2
      · rw [h2] at hcl hn ⊢
        have := lo r2 hr2 (by rw [e]; exact hn) y hy2 hcl
        show t < r.xtxn
        omega
      · have := h.eld w (List.mem_filter.1 h2).1 hww r2 hr2 (by rw [e]; exact hn) y hy2 hcl; omega
theorem gR_fit {m : List rowT} (h : Sound m) (t : Nat) (x : LockD) : Fit (gR m t x) := by
  obtain ⟨h2, h3⟩ := put_tot m h.up t x
  have h4 := putR_len m h.up t x
  have h5 := h.len
  have h6 := h.tot
  have h7 := List.length_filter_le (fun r => !dies t x r) (putR m t x)
  have h9 : List.length (gR m t x) = List.length ((putR m t x).filter fun r => !dies t x r) := rfl
  have h10 : Tot (gR m t x) ≤ Tot (putR m t x) := sum_filter _ _
  exact ⟨(up_put h.up t x).filter _, show List.length (gR m t x) ≤ 999999 by omega, show Tot (gR m t x) ≤ 1000000 by omega⟩
theorem told_ask {m : List rowT} (h : AJ m) (t : Nat) (x : LockD) : Told (askM m t x).2.1 (askM m t x).2.2.1 (askM m t x).2.2.2.2 := by
  have he := ej_ask h.ej t x
  unfold askM at he ⊢
  by_cases c1 : span_Check x.xRange = 0
  · rw [if_pos c1] at he ⊢
    by_cases c2 : locks_Table_waiting (TableT.mk (Ll.mk m)) t = true
    · rw [if_pos c2]; exact told_same h
    · rw [if_neg c2] at he ⊢
      by_cases c3 : locks_Table_has (TableT.mk (Ll.mk m)) t x = true
      · rw [if_pos c3]; exact told_same h
      · rw [if_neg c3] at he ⊢
        by_cases c4 : 192 ≤ Tot m
        · rw [if_pos c4]; exact told_same h
        · rw [if_neg c4] at he ⊢
          by_cases c5 : locks_Table_holders (TableT.mk (Ll.mk m)) t x = []
          · rw [if_pos c5] at he ⊢
            have h0 : AI (t :: List.map (fun r : rowT => r.xtxn) m) m [] [] := ⟨h.ap, fun n hn => (by cases hn), fun n hn => (by cases hn), fun r hr => .tail _ (List.mem_map.2 ⟨r, hr, rfl⟩)⟩
            have h1 := ai_step h.ej.snd.up h0 x (.head _) (fun n hn => by cases hn) c5
            have h2 : AI (t :: List.map (fun r : rowT => r.xtxn) m) (gR m t x) [] (gD m t x) := ⟨h1.ap, h1.dead, fun n hn => (by cases hn), h1.ins⟩
            have h3 := ai_settle (gR_fit h.ej.snd t x) h2
            exact ⟨⟨he, h3.ap⟩, fun n hn => h3.dead n (srt_mem.1 hn), fun n hn => h3.gr n (srt_mem.1 hn)⟩
          · rw [if_neg c5] at he ⊢
            by_cases c6 : List.getD (locks_Table_holders (TableT.mk (Ll.mk m)) t x) 0 default < t
            · rw [if_pos c6]; exact told_same h
            · rw [if_neg c6] at he ⊢
              exact told_same ⟨he, apart_wait h.ej.snd.up h.ap c6⟩
  · rw [if_neg c1]; exact told_same h
theorem told_release {m : List rowT} (h : AJ m) (t : Nat) : Told (locks_Table_Release (TableT.mk (Ll.mk m)) t).1 (locks_Table_Release (TableT.mk (Ll.mk m)) t).2.1 (locks_Table_Release (TableT.mk (Ll.mk m)) t).2.2.xrows.ls ∧ locks_Table_Holds (locks_Table_Release (TableT.mk (Ll.mk m)) t).2.2 t = [] := by
  have he := ej_release h.ej.snd t
  have e : locks_Table_Release (TableT.mk (Ll.mk m)) t = (srt (locks_Table_settle_L0 (Wt (but t m) + 1) (but t m) [] []).2.1, srt (locks_Table_settle_L0 (Wt (but t m) + 1) (but t m) [] []).2.2, TableT.mk (Ll.mk (locks_Table_settle_L0 (Wt (but t m) + 1) (but t m) [] []).1)) := by
    unfold locks_Table_Release
    rw [bnd_eq, bnd_eq, drop_told h.ej.snd.up, settle_told]
  rw [e] at he ⊢
  have hf : Fit (but t m) := h.ej.snd.fit.filter _
  have h0 : AI (List.map (fun r : rowT => r.xtxn) (but t m)) (but t m) [] [] := ⟨h.ap.filter _, fun n hn => (by cases hn), fun n hn => (by cases hn), fun r hr => List.mem_map.2 ⟨r, hr, rfl⟩⟩
  have h3 := ai_settle hf h0
  refine ⟨⟨⟨he, h3.ap⟩, fun n hn => h3.dead n (srt_mem.1 hn), fun n hn => h3.gr n (srt_mem.1 hn)⟩, ?_⟩
  rw [Holds_told he.snd.up]
  cases ho : old (locks_Table_settle_L0 (Wt (but t m) + 1) (but t m) [] []).1 t with
  | nil => rfl
  | cons y l =>
    exfalso
    obtain ⟨r, hr, e2, _⟩ := old_of (show y ∈ old (locks_Table_settle_L0 (Wt (but t m) + 1) (but t m) [] []).1 t by rw [ho]; exact .head _)
    obtain ⟨q, hq, e3⟩ := List.mem_map.1 (h3.ins r hr)
    exact of_decide_eq_true (List.mem_filter.1 hq).2 (e3.trans e2)
theorem a1 {g d : List Nat} {m : List rowT} (hu : Up m) : ∀ l : List Nat, (∀ n ∈ l, ∀ r ∈ m, r.xtxn ≠ n) → w16_LocksApart_L1 g d m l = Sum.inl ()
  | [], _ => rfl
  | n :: l, h => by
    have ho : old m n = [] := by
      unfold old
      rw [List.filter_eq_nil_iff.2 (fun r hr => by simpa using h n (.head _) r hr)]; rfl
    rw [w16_LocksApart_L1, bnd_eq, Holds_told hu, ho, if_neg (by decide)]
    exact a1 hu l fun k hk => h k (.tail _ hk)
theorem a3 {w : AskD} {g d : List Nat} (h : ∀ n ∈ g ++ d, w.xTxn ≠ n) : ∀ (q k : Nat), q = List.length (g ++ d) - k → w16_LocksApart_L3 w g d q k = Sum.inl ()
  | 0, k, _ => rfl
  | q + 1, k, hq => by
    obtain ⟨e, he⟩ : ∃ e, (g ++ d)[k]? = some e := ⟨_, List.getElem?_eq_getElem (by omega)⟩
    have hne := h e (List.mem_of_getElem? he)
    rw [w16_LocksApart_L3, bnd_eq, getD_of he, if_neg (show ¬ ((w.xTxn : Nat) : Int) = (e : Int) by omega)]
    exact a3 h q (k + 1) (by omega)
theorem a2 {g d : List Nat} {m : List rowT} : ∀ l : List AskD, (∀ w ∈ l, ∀ n ∈ g ++ d, w.xTxn ≠ n) → w16_LocksApart_L2 g d m l = Sum.inl ()
  | [], _ => rfl
  | w :: l, h => by
    rw [w16_LocksApart_L2, a3 (h w (.head _)) _ 0 (by omega), lpS_inl]
    exact a2 l fun v hv => h v (.tail _ hv)
theorem a_rest {g d : List Nat} {m : List rowT} (h : Told g d m) : w16_LocksApart_L1 g d m d = Sum.inl () ∧ w16_LocksApart_L2 g d m (locks_Table_Waiting (TableT.mk (Ll.mk m))) = Sum.inl () := by
  refine ⟨a1 h.aj.ej.snd.up d h.dead, a2 _ fun w hw n hn => ?_⟩
  rw [Waiting_told] at hw
  obtain ⟨r, hr, e⟩ := List.mem_map.1 hw
  rw [← e]
  show r.xtxn ≠ n
  obtain ⟨h1, h2⟩ := List.mem_filter.1 hr
  rcases List.mem_append.1 hn with h3 | h3
  · exact h.gr n h3 r h1 h2
  · exact h.dead n h3 r h1
theorem a_loop (b : Bool) : ∀ (l : List OpD) (m : List rowT), AJ m → w16_LocksApart_L0 b l m = Sum.inl ()
  | [], m, _ => rfl
  | o :: l, m, h => by
    rw [w16_LocksApart_L0]
    by_cases c : o.xDo = 0
    · have ht := told_ask h o.xTxn o.xLock
      rw [if_pos c, bnd_eq, ask_told h.ej.snd]
      generalize askM m o.xTxn o.xLock = R at ht ⊢
      obtain ⟨s, g, d, e, rows⟩ := R
      simp only [lpS_inl] at ht ⊢
      simp only [bnd_eq]
      obtain ⟨r1, r2⟩ := a_rest ht
      rw [r1, lpS_inl, r2, lpS_inl, if_pos (sound_true ht.aj)]
      exact a_loop b l rows ht.aj
    · obtain ⟨ht, hh⟩ := told_release h o.xTxn
      rw [if_neg c, bnd_eq, bnd_eq, hh, if_neg (by decide)]
      generalize locks_Table_Release (TableT.mk (Ll.mk m)) o.xTxn = R at ht ⊢
      obtain ⟨g, d, ⟨⟨rows⟩⟩⟩ := R
      simp only [lpS_inl] at ht ⊢
      simp only [bnd_eq]
      obtain ⟨r1, r2⟩ := a_rest ht
      rw [r1, lpS_inl, r2, lpS_inl, if_pos (sound_true ht.aj)]
      exact a_loop b l rows ht.aj
theorem T_LocksApart (l : List OpD) : w16_LocksApart l = true := by
  unfold w16_LocksApart
  rw [bnd_eq, live_true]
  by_cases c : ((l.length : Nat) : Int) > 100
  · rw [if_pos c]; rfl
  · rw [if_neg c, a_loop true l [] ⟨⟨sound_nil, fun r hr => (by cases hr)⟩, fun r hr => (by cases hr), fun r hr => (by cases hr)⟩]; rfl
end Go.Proofs.Ytggnajpokhaaiaa
