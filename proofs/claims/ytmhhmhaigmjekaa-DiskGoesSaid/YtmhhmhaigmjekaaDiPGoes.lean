/-
  A device does what the document says.
  Conditions: none beyond each law's own.
-/
import Derived.Test.YtmhhmhaigmjekaaDiT
import Derived.Test.YtmhhmhaigmjekaaLGoes
namespace Go.Proofs.Ytmhhmhaigmjekaa
set_option linter.unusedVariables false
set_option linter.unusedSimpArgs false
/-- the program's device and the document's -/
structure Rel (d : DiskT) (sf wt : List (List UInt8)) (fu : Int) (dn : Bool) : Prop where
  up : d.xup = !dn
  fuse : d.xfuse = fu
  sec : d.xsectors = (sf.length : Int)
  len : wt.length = sf.length
  ssrt : Srt d.xsafe
  srt : Srt d.xwaits
  key : ∀ p ∈ d.xwaits, 0 ≤ p.1 ∧ p.1 < (sf.length : Int) ∧ p.2.length = 64
  safe : ∀ j : Nat, j < sf.length → sf[j]? = some (rd d.xsafe (j : Int))
  wait : ∀ j : Nat, j < sf.length → wt[j]? = some ((mget d.xwaits (j : Int)).getD [])
abbrev RelX (d : DiskT) (x : DiskDT) : Prop := Rel d x.xSafe.ls x.xWait.ls x.xFused x.xDown
theorem len64 {v : List UInt8} (h : v.length = 64) : v ≠ [] := fun e => by rw [e] at h; cases h
theorem Rel.nil {d : DiskT} {sf wt : List (List UInt8)} {fu : Int} {dn : Bool} (h : Rel d sf wt fu dn) {j : Nat} : (mget d.xwaits (j : Int)).getD [] = [] ↔ mget d.xwaits (j : Int) = none := by
  cases e : mget d.xwaits (j : Int) with
  | none => exact ⟨fun _ => rfl, fun _ => rfl⟩
  | some v => exact ⟨fun q => absurd q (len64 (h.key _ (mget_mem e)).2.2), fun q => by cases q⟩
theorem go_read {d : DiskT} {x : DiskDT} (h : RelX d x) (i : Int) : disk_Disk_Read d i = r06_Disk_Read x i := by
  rw [read_eq]
  unfold r06_Disk_Read
  simp only [bnd]
  have hu := h.up
  by_cases hd : x.xDown = true
  · rw [hd] at hu; rw [if_pos hd, if_neg (by rw [hu]; simp)]
  · rw [if_neg hd, if_pos (by rw [hu]; simpa using hd)]
    by_cases hi : i < 0
    · rw [if_pos hi, if_pos hi]
    · rw [if_neg hi, if_neg hi, h.sec]
      by_cases hj : i ≥ (x.xSafe.ls.length : Int)
      · rw [if_pos hj, if_pos hj]
      · rw [if_neg hj, if_neg hj]
        obtain ⟨j, rfl⟩ : ∃ j : Nat, i = (j : Int) := ⟨i.toNat, by omega⟩
        rw [Int.toNat_natCast, getD_at (h.wait j (by omega)), getD_at (h.safe j (by omega))]
        cases e : mget d.xwaits (j : Int) with
        | none => rfl
        | some v =>
          simp only [Option.getD_some]
          rw [if_pos (len64 (h.key _ (mget_mem e)).2.2)]
theorem go_waits_L0 : ∀ (l : List (List UInt8)) (acc : List Int) (k : Nat) (w : List Ent), Srt w → (∀ p ∈ w, (k : Int) ≤ p.1 ∧ p.1 < (k : Int) + l.length ∧ p.2 ≠ []) → (∀ j : Nat, j < l.length → l[j]? = some ((mget w ((k + j : Nat) : Int)).getD [])) → r06_Disk_Waits_L0 l acc k = acc ++ List.map Prod.fst w
  | [], acc, k, w, hw, hb, _ => by
    cases w with
    | nil => show acc = _; rw [List.map_nil, List.append_nil]
    | cons p w => have := hb p (.head _); simp at this; omega
  | x :: l, acc, k, w, hw, hb, ha => by
    rw [r06_Disk_Waits_L0]
    have h0 := ha 0 (by simp)
    simp only [List.getElem?_cons_zero, Nat.add_zero, Option.some.injEq] at h0
    have hnext : ∀ (w' : List Ent), (∀ j : Nat, k + 1 ≤ j → mget w' (j : Int) = mget w (j : Int)) → ∀ j : Nat, j < l.length → l[j]? = some ((mget w' ((k + 1 + j : Nat) : Int)).getD []) := fun w' hw' j hj => by
      have := ha (j + 1) (by simp; omega)
      rw [List.getElem?_cons_succ] at this
      rw [this, hw' (k + 1 + j) (by omega), show k + (j + 1) = k + 1 + j by omega]
    cases hm : mget w (k : Int) with
    | none =>
      rw [hm] at h0
      rw [if_neg (by rw [h0]; simp), go_waits_L0 l acc (k + 1) w hw (fun p hp => ?_) (hnext w fun _ _ => rfl)]
      have := hb p hp
      have hne : p.1 ≠ (k : Int) := fun e => by
        have := srt_get hw (show (p.1, p.2) ∈ w from hp)
        rw [e, hm] at this; cases this
      simp only [List.length_cons] at this
      exact ⟨by omega, by omega, this.2.2⟩
    | some v =>
      rw [hm] at h0
      simp only [Option.getD_some] at h0
      have hv := (hb _ (mget_mem hm)).2.2
      rw [if_pos (by rw [h0]; exact hv)]
      cases w with
      | nil => cases hm
      | cons p w =>
        obtain ⟨w1, w2⟩ := List.pairwise_cons.1 hw
        have hp := hb p (.head _)
        have hpk : p.1 = (k : Int) := by
          rcases List.mem_cons.1 (mget_mem hm) with e | e
          · rw [← e]
          · have := w1 _ e; simp only at this; omega
        rw [go_waits_L0 l (acc ++ [((k : Nat) : Int)]) (k + 1) w w2 (fun p' hp' => ?_) (hnext w fun j hj => ?_)]
        · rw [List.map_cons, List.append_assoc, hpk]; rfl
        · have := w1 p' hp'; have := hb p' (.tail _ hp'); simp only [List.length_cons] at this; exact ⟨by omega, by omega, this.2.2⟩
        · obtain ⟨a, b⟩ := p
          simp only at hpk
          rw [mget_cons, if_neg (by omega)]
theorem go_waits {d : DiskT} {x : DiskDT} (h : RelX d x) : disk_Disk_Waits d = r06_Disk_Waits x := by
  unfold disk_Disk_Waits r06_Disk_Waits
  simp only [bnd]
  rw [go_waits_L0 x.xWait.ls [] 0 d.xwaits h.srt (fun p hp => ?_) fun j hj => ?_]
  · rfl
  · have := h.key p hp; rw [h.len]; exact ⟨by omega, by omega, len64 this.2.2⟩
  · rw [Nat.zero_add]; exact h.wait j (by rw [← h.len]; exact hj)
theorem go_same_L0 (p0 : DiskT) (p1 : DiskDT) (r : List Int) : ∀ (q k : Nat) (l : List Int), q + k = r.length → (∀ j, k ≤ j → l[j]? = r[j]?) → w06_same_L0 p0 p1 r q k l = .inl ()
  | 0, _, _, _, _ => rfl
  | q + 1, k, l, hk, h => by
    obtain ⟨v, hv⟩ : ∃ v, r[k]? = some v := ⟨_, List.getElem?_eq_getElem (by omega)⟩
    rw [w06_same_L0]
    simp only [bnd, getD_at hv, getD_at ((h k (Nat.le_refl _)).trans hv), if_true]
    exact go_same_L0 p0 p1 r q (k + 1) _ (by omega) fun j hj => by rw [List.getElem?_set_ne (by omega)]; exact h j (by omega)
theorem go_same_L1 {d : DiskT} {x : DiskDT} (h : RelX d x) : ∀ (q : Nat) (z : Int), w06_same_L1 d x q z = .inl ()
  | 0, _ => rfl
  | q + 1, z => by
    rw [w06_same_L1]
    simp only [bnd, go_read h z, ne_eq, not_true_eq_false, if_false, if_true]
    split
    · exact go_same_L1 h q (z + 1)
    · rfl
theorem go_same {d : DiskT} {x : DiskDT} (h : RelX d x) : w06_same d x = true := by
  unfold w06_same disk_Disk_Up disk_Disk_Sectors
  simp only [bnd, go_waits h, h.sec, if_true]
  rw [if_neg (by rw [h.up]; cases x.xDown <;> simp), go_same_L0 d x _ _ 0 _ (by omega) (fun _ _ => rfl)]
  simp only [lp]
  rw [go_same_L1 h]
theorem go_write {d : DiskT} {x : DiskDT} (h : RelX d x) (i : Int) (u : List UInt8) : (disk_Disk_Write d i u).1 = (r06_Disk_Write x i u).1 ∧ RelX (disk_Disk_Write d i u).2 (r06_Disk_Write x i u).2 := by
  rw [write_eq]
  unfold r06_Disk_Write
  have hu := h.up
  by_cases hd : x.xDown = true
  · rw [hd] at hu; rw [if_pos hd, if_neg (by rw [hu]; simp)]; exact ⟨rfl, h⟩
  · have hu2 : d.xup = true := by rw [hu]; simpa using hd
    rw [if_neg hd, if_pos hu2]
    by_cases hi : i < 0
    · rw [if_pos hi, if_pos hi]; exact ⟨rfl, h⟩
    · rw [if_neg hi, if_neg hi, h.sec]
      by_cases hj : i ≥ (x.xSafe.ls.length : Int)
      · rw [if_pos hj, if_pos hj]; exact ⟨rfl, h⟩
      · rw [if_neg hj, if_neg hj]
        by_cases hl : u.length = 64
        · rw [if_pos hl, if_pos (show ((u.length : Nat) : Int) = 64 by omega), h.fuse]
          by_cases h0 : x.xFused = 0
          · rw [if_pos h0, if_pos h0]
            exact ⟨rfl, ⟨rfl, rfl, rfl, h.len, h.ssrt, h.srt, h.key, h.safe, h.wait⟩⟩
          · rw [if_neg h0, if_neg h0]
            have key : ∀ f, RelX (⟨(x.xSafe.ls.length : Int), d.xsafe, sput d.xwaits i u, d.xup, f⟩ : DiskT) (DiskDT.mk (Ll.mk x.xSafe.ls) (Ll.mk (List.set x.xWait.ls (Int.toNat i) u)) f x.xDown) := fun f => by
              refine ⟨hu, rfl, rfl, by rw [List.length_set]; exact h.len, h.ssrt, sput_srt h.srt, fun p hp => ?_, h.safe, fun j hj2 => ?_⟩
              · rcases (sput_mem h.srt).1 hp with rfl | ⟨hp, _⟩
                · show 0 ≤ i ∧ i < (x.xSafe.ls.length : Int) ∧ u.length = 64; exact ⟨by omega, by omega, hl⟩
                · exact h.key p hp
              · show (List.set x.xWait.ls (Int.toNat i) u)[j]? = some ((mget (sput d.xwaits i u) (j : Int)).getD [])
                rw [mget_sput h.srt, set_atE (by rw [h.len]; omega)]
                by_cases e : i = (j : Int)
                · rw [if_pos e, if_pos (by omega)]; rfl
                · rw [if_neg e, if_neg (by omega)]; exact h.wait j hj2
            unfold tick
            by_cases hf : x.xFused > 0
            · rw [if_pos hf, if_pos hf]; exact ⟨rfl, key _⟩
            · rw [if_neg hf, if_neg hf]; exact ⟨rfl, key _⟩
        · rw [if_neg hl, if_neg (show ¬ ((u.length : Nat) : Int) = 64 by omega)]; exact ⟨rfl, h⟩
theorem go_sync_L (p0 : DiskDT) : ∀ (q k : Nat) (a b : List (List UInt8)), r06_Disk_Sync_L1 p0 q k a b = r06_Disk_Sync_L0 p0 q k a b
  | 0, _, _, _ => rfl
  | q + 1, k, a, b => by
    rw [r06_Disk_Sync_L1, r06_Disk_Sync_L0]
    simp only [bnd, go_sync_L p0 q]
theorem go_sync_L0 (p0 : DiskDT) {n : Nat} : ∀ (q k : Nat) (a b : List (List UInt8)), q + k = n → a.length = n → b.length = n → (r06_Disk_Sync_L0 p0 q k a b).1.length = n ∧ (r06_Disk_Sync_L0 p0 q k a b).2.length = n ∧
    ∀ (j : Nat) (va vb : List UInt8), a[j]? = some va → b[j]? = some vb → (r06_Disk_Sync_L0 p0 q k a b).1[j]? = some (if k ≤ j ∧ vb ≠ [] then vb else va) ∧ (r06_Disk_Sync_L0 p0 q k a b).2[j]? = some (if k ≤ j then [] else vb)
  | 0, k, a, b, hk, ha, hb => ⟨ha, hb, fun j va vb e1 e2 => by
    have : j < a.length := (List.getElem?_eq_some_iff.1 e1).1
    rw [if_neg (by omega), if_neg (by omega)]
    exact ⟨e1, e2⟩⟩
  | q + 1, k, a, b, hk, ha, hb => by
    obtain ⟨x, hx⟩ : ∃ x, b[k]? = some x := ⟨_, List.getElem?_eq_getElem (by omega)⟩
    rw [r06_Disk_Sync_L0]
    simp only [bnd, getD_at hx]
    by_cases hx0 : x = []
    · rw [if_neg (by rw [hx0]; simp)]
      obtain ⟨l1, l2, ih⟩ := go_sync_L0 p0 q (k + 1) a b (by omega) ha hb
      refine ⟨l1, l2, fun j va vb e1 e2 => ?_⟩
      obtain ⟨i1, i2⟩ := ih j va vb e1 e2
      rw [i1, i2]
      by_cases hj : j = k
      · subst hj
        rw [hx] at e2; injection e2 with e2
        have hvb : vb = [] := by rw [← e2]; exact hx0
        constructor <;> simp [hvb]
      · have e : k + 1 ≤ j ↔ k ≤ j := by omega
        simp only [e]; exact ⟨trivial, trivial⟩
    · rw [if_pos hx0]
      obtain ⟨l1, l2, ih⟩ := go_sync_L0 (n := n) p0 q (k + 1) (List.set a k x) (List.set b k []) (by omega) (by rw [List.length_set]; exact ha) (by rw [List.length_set]; exact hb)
      refine ⟨l1, l2, fun j va vb e1 e2 => ?_⟩
      by_cases hj : k = j
      · subst hj
        rw [hx] at e2; injection e2 with e2
        obtain ⟨i1, i2⟩ := ih k x [] (show (List.set a k x)[k]? = some x by rw [set_atE (l := a) (i := k) (by omega), if_pos rfl]) (show (List.set b k [])[k]? = some [] by rw [set_atE (l := b) (i := k) (by omega), if_pos rfl])
        rw [i1, i2]
        constructor <;> simp [← e2, hx0]
      · obtain ⟨i1, i2⟩ := ih j va vb (show (List.set a k x)[j]? = some va by rw [set_atE (l := a) (i := k) (by omega), if_neg hj]; exact e1) (show (List.set b k [])[j]? = some vb by rw [set_atE (l := b) (i := k) (by omega), if_neg hj]; exact e2)
        have e : k + 1 ≤ j ↔ k ≤ j := by omega
        rw [i1, i2]
        simp only [e]; exact ⟨trivial, trivial⟩
theorem go_sync {d : DiskT} {x : DiskDT} (h : RelX d x) : (disk_Disk_Sync d).1 = (r06_Disk_Sync x).1 ∧ RelX (disk_Disk_Sync d).2 (r06_Disk_Sync x).2 := by
  rw [sync_eq]
  unfold r06_Disk_Sync
  have hu := h.up
  by_cases hd : x.xDown = true
  · rw [hd] at hu; rw [if_pos hd, if_neg (by rw [hu]; simp)]; exact ⟨rfl, h⟩
  · have hu2 : d.xup = true := by rw [hu]; simpa using hd
    rw [if_neg hd, if_pos hu2, h.fuse]
    by_cases h0 : x.xFused = 0
    · rw [if_pos h0, if_pos h0]
      exact ⟨rfl, ⟨rfl, rfl, h.sec, h.len, h.ssrt, h.srt, h.key, h.safe, h.wait⟩⟩
    · rw [if_neg h0, if_neg h0]
      simp only [bnd, go_sync_L]
      obtain ⟨l1, l2, hs⟩ := go_sync_L0 (n := x.xWait.ls.length) x x.xWait.ls.length 0 x.xSafe.ls x.xWait.ls rfl h.len.symm rfl
      have key : ∀ f, RelX (⟨d.xsectors, keepAll d.xsafe d.xwaits, [], d.xup, f⟩ : DiskT) (DiskDT.mk (Ll.mk (r06_Disk_Sync_L0 x x.xWait.ls.length 0 x.xSafe.ls x.xWait.ls).1) (Ll.mk (r06_Disk_Sync_L0 x x.xWait.ls.length 0 x.xSafe.ls x.xWait.ls).2) f x.xDown) := fun f => by
        refine ⟨hu, rfl, by rw [h.sec]; show _ = ((List.length (r06_Disk_Sync_L0 x x.xWait.ls.length 0 x.xSafe.ls x.xWait.ls).1 : Nat) : Int); rw [l1, h.len], l2.trans l1.symm, keepAll_srt h.ssrt, List.Pairwise.nil, fun p hp => (by cases hp), fun j hj => ?_, fun j hj => ?_⟩
        all_goals
          have hj2 : j < x.xSafe.ls.length := by
            have hj : j < (r06_Disk_Sync_L0 x x.xWait.ls.length 0 x.xSafe.ls x.xWait.ls).1.length := hj
            rw [l1, h.len] at hj; exact hj
          obtain ⟨i1, i2⟩ := hs j _ _ (h.safe j hj2) (h.wait j hj2)
        · show (r06_Disk_Sync_L0 x x.xWait.ls.length 0 x.xSafe.ls x.xWait.ls).1[j]? = _
          rw [i1]
          show _ = some (rd (keepAll d.xsafe d.xwaits) (j : Int))
          rw [rd_keepAll h.ssrt h.srt]
          cases e : mget d.xwaits (j : Int) with
          | none => simp only [Option.getD_none]; rw [if_neg (by simp)]
          | some v => simp only [Option.getD_some]; rw [if_pos ⟨Nat.zero_le _, len64 (h.key _ (mget_mem e)).2.2⟩]
        · show (r06_Disk_Sync_L0 x x.xWait.ls.length 0 x.xSafe.ls x.xWait.ls).2[j]? = _
          rw [i2, if_pos (Nat.zero_le _)]; rfl
      unfold tick
      by_cases hf : x.xFused > 0
      · rw [if_pos hf, if_pos hf]; exact ⟨rfl, key _⟩
      · rw [if_neg hf, if_neg hf]; exact ⟨rfl, key _⟩
theorem go_fuse {d : DiskT} {x : DiskDT} (h : RelX d x) (i : Int) : RelX (disk_Disk_Fuse d i) (r06_Disk_Fuse x i) := ⟨h.up, rfl, h.sec, h.len, h.ssrt, h.srt, h.key, h.safe, h.wait⟩
theorem go_crash_L0 (d : DiskT) (mk : List UInt8) {n : Nat} : ∀ (q i k : Nat) (s w : List Ent) (a b : List (List UInt8)), q + i = n → a.length = n → b.length = n → Srt s → Srt w → (∀ p ∈ w, (i : Int) ≤ p.1 ∧ p.1 < (n : Int) ∧ p.2.length = 64) →
    (∀ j : Nat, j < n → a[j]? = some (rd s (j : Int))) → (∀ j : Nat, j < n → b[j]? = some ((mget w (j : Int)).getD [])) →
    ∃ s' a' b', disk_Disk_Crash_L0 d mk (List.map Prod.fst w) k s w = (s', []) ∧ r06_Disk_Crash_L0 mk q k i a b = (a', b') ∧ Srt s' ∧ a'.length = n ∧ b'.length = n ∧ (∀ j : Nat, j < n → a'[j]? = some (rd s' (j : Int))) ∧ (∀ j : Nat, j < n → b'[j]? = some [])
  | 0, i, k, s, w, a, b, hi, ha, hb, hs, hw, hk, h1, h2 => by
    cases w with
    | cons p w => have := hk p (.head _); omega
    | nil => exact ⟨s, a, b, rfl, rfl, hs, ha, hb, h1, h2⟩
  | q + 1, i, k, s, w, a, b, hi, ha, hb, hs, hw, hk, h1, h2 => by
    rw [r06_Disk_Crash_L0]
    simp only [bnd, getD_at (h2 i (by omega))]
    cases hm : mget w (i : Int) with
    | none =>
      simp only [Option.getD_none, if_true]
      refine go_crash_L0 d mk q (i + 1) k s w a b (by omega) ha hb hs hw (fun p hp => ?_) h1 h2
      have := hk p hp
      have hne : p.1 ≠ (i : Int) := fun e => by
        have := srt_get hw (show (p.1, p.2) ∈ w from hp)
        rw [e, hm] at this; cases this
      exact ⟨by omega, this.2⟩
    | some v =>
      cases w with
      | nil => cases hm
      | cons p w =>
        obtain ⟨w1, w2⟩ := List.pairwise_cons.1 hw
        have hp := hk p (.head _)
        have hpk : p = ((i : Int), v) := by
          rcases List.mem_cons.1 (mget_mem hm) with e | e
          · exact e.symm
          · have := w1 _ e; simp only at this; omega
        subst hpk
        have hv := hp.2.2
        simp only [Option.getD_some]
        rw [if_neg (len64 hv), List.map_cons, crash_step, sdel_head hw, rd_head]
        have hk2 : ∀ p ∈ w, ((i + 1 : Nat) : Int) ≤ p.1 ∧ p.1 < (n : Int) ∧ p.2.length = 64 := fun p hp => by
          have := w1 p hp; have := hk p (.tail _ hp); simp only at *; exact ⟨by omega, this.2⟩
        have hb2 : ∀ j : Nat, j < n → (List.set b i ([] : List UInt8))[j]? = some ((mget w (j : Int)).getD []) := fun j hj => by
          rw [set_atE (by omega)]
          by_cases e : i = j
          · rw [if_pos e, mget_none (fun q hq e2 => by have := hk2 q hq; omega)]; rfl
          · rw [if_neg e, h2 j hj]
            rw [mget_cons, if_neg (by omega)]
        have hl : (List.set b i ([] : List UInt8)).length = n := by rw [List.length_set]; exact hb
        by_cases hs1 : k < mk.length
        · rw [if_pos (show ((k : Nat) : Int) < ((mk.length : Nat) : Int) by omega)]
          by_cases hs2 : (mk.getD k default).toNat % 2 = 1
          · rw [if_pos (show (((mk.getD k default).toNat % 2 : Nat) : Int) = 1 by omega), if_pos (show k < mk.length ∧ (mk.getD k default).toNat % 2 = 1 from ⟨hs1, hs2⟩)]
            refine go_crash_L0 d mk q (i + 1) (k + 1) _ w _ _ (by omega) (by rw [List.length_set]; exact ha) hl (keep1_srt hs _) w2 hk2 (fun j hj => ?_) hb2
            rw [set_atE (by omega), rd_keep1 hs]
            by_cases e : i = j
            · rw [if_pos e, if_pos (by simp only; omega)]
            · rw [if_neg e, if_neg (by simp only; omega)]; exact h1 j hj
          · rw [if_neg (show ¬ (((mk.getD k default).toNat % 2 : Nat) : Int) = 1 by omega), if_neg (fun h => hs2 h.2)]
            exact go_crash_L0 d mk q (i + 1) (k + 1) s w a _ (by omega) ha hl hs w2 hk2 h1 hb2
        · rw [if_neg (show ¬ ((k : Nat) : Int) < ((mk.length : Nat) : Int) by omega), if_neg (fun h => hs1 h.1)]
          exact go_crash_L0 d mk q (i + 1) (k + 1) s w a _ (by omega) ha hl hs w2 hk2 h1 hb2
theorem go_crash {d : DiskT} {x : DiskDT} (h : RelX d x) (mk : List UInt8) : RelX (disk_Disk_Crash d mk) (r06_Disk_Crash x mk) ∧ (disk_Disk_Crash d mk).xup = false := by
  obtain ⟨s', a', b', e1, e2, h1, h2, h3, h4, h5⟩ := go_crash_L0 (n := x.xWait.ls.length) d mk x.xWait.ls.length 0 0 d.xsafe d.xwaits x.xSafe.ls x.xWait.ls rfl h.len.symm rfl h.ssrt h.srt (fun p hp => by have := h.key p hp; rw [h.len]; exact ⟨by omega, this.2⟩) (fun j hj => h.safe j (by rw [← h.len]; exact hj)) fun j hj => h.wait j (by rw [← h.len]; exact hj)
  unfold disk_Disk_Crash r06_Disk_Crash disk_Disk_Waits
  simp only [bnd]
  rw [e1, e2]
  refine ⟨⟨rfl, rfl, ?_, ?_, h1, List.Pairwise.nil, fun p hp => (by cases hp), fun j hj => h4 j ?_, fun j hj => h5 j ?_⟩, trivial⟩
  · show d.xsectors = ((a'.length : Nat) : Int); rw [h.sec, h2, h.len]
  · show b'.length = a'.length; rw [h2, h3]
  · have : j < a'.length := hj; omega
  · have : j < a'.length := hj; omega
theorem go_start {d : DiskT} {x : DiskDT} (h : RelX d x) : RelX (disk_Disk_Start d) (r06_Disk_Start x) := by
  unfold disk_Disk_Start r06_Disk_Start
  have hu := h.up
  by_cases hd : x.xDown = true
  · rw [hd] at hu
    rw [if_pos hd, if_neg (by rw [hu]; simp)]
    obtain ⟨hc, _⟩ := go_crash h []
    exact ⟨rfl, hc.fuse, hc.sec, hc.len, hc.ssrt, hc.srt, hc.key, hc.safe, hc.wait⟩
  · rw [if_neg hd, if_pos (by rw [hu]; simpa using hd)]; exact h
theorem go_L1 (r : Bool) : ∀ (l : List OpD) (d : DiskT) (a b : List (List UInt8)) (f : Int) (dn : Bool), Rel d a b f dn → w06_DiskGoes_L1 r l d a b f dn = .inl ()
  | [], d, a, b, f, dn, h => rfl
  | x :: l, d, a, b, f, dn, h => by
    have hx : RelX d (DiskDT.mk (Ll.mk a) (Ll.mk b) f dn) := h
    have fin : ∀ (d' : DiskT) (x' : DiskDT), RelX d' x' → w06_DiskGoes_L1 r l d' x'.xSafe.ls x'.xWait.ls x'.xFused x'.xDown = .inl () := fun d' x' h' => go_L1 r l d' _ _ _ _ h'
    rw [w06_DiskGoes_L1]
    generalize hX : DiskDT.mk (Ll.mk a) (Ll.mk b) f dn = X at hx
    have hsame : ∀ (d' : DiskT) (x' : DiskDT), RelX d' x' → (if w06_same d' x' = true then if x.xClone = true then bnd (disk_Disk_Clone d') fun y => w06_DiskGoes_L1 r l y x'.xSafe.ls x'.xWait.ls x'.xFused x'.xDown else w06_DiskGoes_L1 r l d' x'.xSafe.ls x'.xWait.ls x'.xFused x'.xDown else Sum.inr false) = Sum.inl () := fun d' x' h' => by
      rw [if_pos (go_same h')]
      split
      · exact fin d' x' h'
      · exact fin d' x' h'
    simp only [bnd_eq] at hsame ⊢
    by_cases hB : (if x.xDo = 0 then decide (x.xDo = 0) else decide (x.xDo = 1)) = true
    · rw [if_pos hB]
      obtain ⟨e, h'⟩ := go_write hx x.xN (if x.xDo = 1 then List.replicate (w06_short x.xShort).toNat (0 : UInt8) else w06_full x.xV)
      rw [if_pos e]
      exact hsame _ _ h'
    · rw [if_neg hB]
      by_cases h2 : x.xDo = 2
      · rw [if_pos h2]
        obtain ⟨e, h'⟩ := go_sync hx
        rw [if_pos e]
        exact hsame _ _ h'
      · rw [if_neg h2]
        by_cases h3 : x.xDo = 3
        · rw [if_pos h3]; exact hsame _ _ (go_fuse hx x.xN)
        · rw [if_neg h3]
          by_cases h4 : x.xDo = 4
          · rw [if_pos h4]; exact hsame _ _ (go_crash hx x.xMask).1
          · rw [if_neg h4]
            by_cases h5 : x.xDo = 5
            · rw [if_pos h5]; exact hsame _ _ (go_start hx)
            · rw [if_neg h5]
              have := hsame d X hx
              subst hX
              exact this
theorem go_L0 (p0 : Int) (l1 : List OpD) (r : Bool) (m : DiskT) : ∀ (q k : Nat), w06_DiskGoes_L0 p0 l1 r m q (List.replicate k (List.replicate 64 (0 : UInt8))) (List.replicate k []) = (List.replicate (k + q) (List.replicate 64 (0 : UInt8)), List.replicate (k + q) [])
  | 0, k => rfl
  | q + 1, k => by
    rw [w06_DiskGoes_L0]
    have e : ∀ {α : Type} (x : α), List.replicate k x ++ [x] = List.replicate (k + 1) x := fun x => List.replicate_succ'.symm
    rw [e, e, go_L0 p0 l1 r m q (k + 1), show k + 1 + q = k + (q + 1) by omega]
theorem T_DiskGoes (p0 : Int) (l1 : List OpD) : w06_DiskGoes p0 l1 = true := by
  unfold w06_DiskGoes
  simp only [bnd, live_true]
  by_cases c1 : p0 < 1
  · rw [if_pos c1]
  · rw [if_neg c1]
    by_cases c2 : p0 > 4096
    · rw [if_pos c2]
    · rw [if_neg c2]
      split
      · rfl
      · split
        · rfl
        · have e := go_L0 p0 l1 true (⟨p0, [], [], true, -1⟩ : DiskT) p0.toNat 0
          simp only [List.replicate_zero, Nat.zero_add] at e
          rw [e]
          simp only
          have hr : Rel (⟨p0, [], [], true, -1⟩ : DiskT) (List.replicate p0.toNat (List.replicate 64 (0 : UInt8))) (List.replicate p0.toNat []) (-1) false := by
            refine ⟨rfl, rfl, ?_, ?_, List.Pairwise.nil, List.Pairwise.nil, fun p hp => (by cases hp), fun j hj => ?_, fun j hj => ?_⟩
            · rw [List.length_replicate]; show p0 = _; omega
            · rw [List.length_replicate, List.length_replicate]
            · rw [List.length_replicate] at hj; rw [List.getElem?_replicate, if_pos hj]; rfl
            · rw [List.length_replicate] at hj; rw [List.getElem?_replicate, if_pos hj]; rfl
          rw [go_L1 true l1 _ _ _ _ _ hr]
          rfl
end Go.Proofs.Ytmhhmhaigmjekaa
