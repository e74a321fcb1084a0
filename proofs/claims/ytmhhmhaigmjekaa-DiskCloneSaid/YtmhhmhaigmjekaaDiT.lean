/-
  What devices do: writes, syncs, crashes of the program and of the document, side by side.
  Conditions: none beyond each law's own.
-/
import Derived.Test.YtmhhmhaigmjekaaDl
namespace Go.Proofs.Ytmhhmhaigmjekaa
set_option linter.unusedVariables false
set_option linter.unusedSimpArgs false
theorem bnd_eq {α β : Type} (a : α) (f : α → β) : bnd a f = f a := rfl
theorem live_true : w06_live = true := by decide +kernel
def rd (s : List Ent) (i : Int) : List UInt8 := (mget s i).getD (List.replicate 64 (0 : UInt8))
theorem full_L0_len (v : UInt8) : ∀ (n k : Nat) (l : List UInt8), (w06_full_L0 v n k l).length = l.length
  | 0, _, _ => rfl
  | n + 1, k, l => by unfold w06_full_L0; rw [full_L0_len v n, List.length_set]
theorem full_len (v : UInt8) : (w06_full v).length = 64 := by
  unfold w06_full
  simp only [bnd]
  rw [full_L0_len, List.length_replicate]
theorem cp_eq {l Z : List UInt8} (h : l.length = 64) (hz : Z.length = 64) : List.take 0 Z ++ (List.take (min l.length 64) l ++ List.drop (0 + (min l.length 64)) Z) = l := by
  rw [h, Nat.min_self, Nat.zero_add, List.take_zero, List.nil_append, List.take_of_length_le (by omega), List.drop_of_length_le (by omega), List.append_nil]
def tick (f : Int) : Int := if f > 0 then IntKind.i64.wrap (f - 1) else f
theorem write_eq (d : DiskT) (i : Int) (l : List UInt8) : disk_Disk_Write d i l = if d.xup = true then if i < 0 then (61, d) else if i ≥ d.xsectors then (61, d) else if l.length = 64 then if d.xfuse = 0 then (60, ⟨d.xsectors, d.xsafe, d.xwaits, false, d.xfuse⟩) else (0, ⟨d.xsectors, d.xsafe, sput d.xwaits i l, d.xup, tick d.xfuse⟩) else (2, d) else (60, d) := by
  unfold disk_Disk_Write
  by_cases h : l.length = 64
  · rw [if_pos (show ((l.length : Nat) : Int) = 64 by omega), if_pos h, cp_eq h List.length_replicate]
    unfold tick
    by_cases hf : d.xfuse > 0
    · rw [if_pos hf, if_pos hf]
    · rw [if_neg hf, if_neg hf]
  · rw [if_neg (show ¬ ((l.length : Nat) : Int) = 64 by omega), if_neg h]
theorem sync_eq (d : DiskT) : disk_Disk_Sync d = if d.xup = true then if d.xfuse = 0 then (60, ⟨d.xsectors, d.xsafe, d.xwaits, false, d.xfuse⟩) else (0, ⟨d.xsectors, keepAll d.xsafe d.xwaits, [], d.xup, tick d.xfuse⟩) else (60, d) := by
  unfold disk_Disk_Sync tick
  simp only [bnd]
  by_cases hf : d.xfuse > 0
  · rw [if_pos hf, if_pos hf]
  · rw [if_neg hf, if_neg hf]
theorem rd_keep1 {s : List Ent} (h : Srt s) (p : Ent) (j : Int) : rd (keep1 s p) j = if p.1 = j then p.2 else rd s j := by
  unfold rd
  rw [mget_keep1 h]
  by_cases e : p.1 = j
  · rw [if_pos e, if_pos e]
    by_cases e2 : p.2 = List.replicate 64 (0 : UInt8)
    · rw [if_pos e2]; exact e2.symm
    · rw [if_neg e2]; rfl
  · rw [if_neg e, if_neg e]
theorem rd_keepAll {s l : List Ent} (hs : Srt s) (hl : Srt l) (j : Int) : rd (keepAll s l) j = (mget l j).getD (rd s j) := by
  unfold rd
  rw [mget_keepAll hs hl]
  cases mget l j with
  | none => rfl
  | some v =>
    by_cases e : v = List.replicate 64 (0 : UInt8)
    · simp only [e, if_true, Option.getD_none, Option.getD_some]
    · simp only [e, if_false, Option.getD_some]
/-- one step of a fall -/
theorem crash_step (d : DiskT) (mk : List UInt8) (x : Int) (q : List Int) (k : Nat) (s w : List Ent) : disk_Disk_Crash_L0 d mk (x :: q) k s w =
    disk_Disk_Crash_L0 d mk q (k + 1) (if k < mk.length ∧ (mk.getD k default).toNat % 2 = 1 then keep1 s (x, rd w x) else s) (sdel w x) := by
  rw [disk_Disk_Crash_L0]
  simp only [bnd]
  by_cases h1 : k < mk.length
  · rw [if_pos (show ((k : Nat) : Int) < ((mk.length : Nat) : Int) by omega)]
    by_cases h2 : (mk.getD k default).toNat % 2 = 1
    · rw [if_pos (show (((mk.getD k default).toNat % 2 : Nat) : Int) = 1 by omega), if_pos (show k < mk.length ∧ (mk.getD k default).toNat % 2 = 1 from ⟨h1, h2⟩)]
      unfold keep1 rd
      simp only
      split <;> rfl
    · rw [if_neg (show ¬ (((mk.getD k default).toNat % 2 : Nat) : Int) = 1 by omega), if_neg (fun h => h2 h.2)]
  · rw [if_neg (show ¬ ((k : Nat) : Int) < ((mk.length : Nat) : Int) by omega), if_neg (fun h => h1 h.1)]
theorem sdel_head {k : Int} {v : List UInt8} {w : List Ent} (h : Srt ((k, v) :: w)) : sdel ((k, v) :: w) k = w := by
  obtain ⟨h1, _⟩ := List.pairwise_cons.1 h
  show List.filter _ _ = w
  rw [List.filter_cons_of_neg (by simp)]
  exact sdel_lenN fun p hp => by have := h1 p hp; simp only at this; omega
theorem mget_cons {a k : Int} {b : List UInt8} {r : List Ent} : mget ((a, b) :: r) k = if a = k then some b else mget r k := rfl
theorem rd_head {k : Int} {v : List UInt8} {w : List Ent} : rd ((k, v) :: w) k = v := by
  unfold rd mget
  rw [if_pos rfl]; rfl
/-- what is left of a device that fell -/
theorem crash_all (d : DiskT) (mk : List UInt8) : ∀ (w : List Ent) (k : Nat) (s : List Ent), Srt w → Srt s → ∃ s', disk_Disk_Crash_L0 d mk (List.map Prod.fst w) k s w = (s', []) ∧ Srt s' ∧ ∀ j, rd s' j = rd s j ∨ (∃ v, mget w j = some v ∧ rd s' j = v)
  | [], k, s, _, hs => ⟨s, rfl, hs, fun j => .inl rfl⟩
  | (x, v) :: w, k, s, hw, hs => by
    obtain ⟨h1, h2⟩ := List.pairwise_cons.1 hw
    rw [List.map_cons, crash_step, sdel_head hw, rd_head]
    have hs2 : Srt (if k < mk.length ∧ (mk.getD k default).toNat % 2 = 1 then keep1 s (x, v) else s) := by
      split
      · exact keep1_srt hs _
      · exact hs
    obtain ⟨s', e, hs', hj⟩ := crash_all d mk w (k + 1) _ h2 hs2
    refine ⟨s', e, hs', fun j => ?_⟩
    by_cases hx : x = j
    · subst hx
      have hn : mget w x = none := mget_none fun q hq e => by have := h1 q hq; simp only at this; omega
      rcases hj x with h | ⟨u, hu, _⟩
      · rw [h]
        split
        · exact .inr ⟨v, by simp [mget], by rw [rd_keep1 hs, if_pos rfl]⟩
        · exact .inl rfl
      · rw [hn] at hu; cases hu
    · rcases hj j with h | ⟨u, hu, h⟩
      · left
        rw [h]
        split
        · rw [rd_keep1 hs, if_neg hx]
        · rfl
      · exact .inr ⟨u, by simp only [mget, hx, if_false]; exact hu, h⟩
theorem getD_at {α : Type} [Inhabited α] {l : List α} {i : Nat} {x : α} (h : l[i]? = some x) : l.getD i default = x := by
  rw [List.getD_eq_getElem?_getD, h]; rfl
theorem set_atE {α : Type} {l : List α} {i : Nat} {v : α} (h : i < l.length) (j : Nat) : (List.set l i v)[j]? = if i = j then some v else l[j]? := by
  by_cases e : i = j
  · subst e; rw [if_pos rfl, List.getElem?_set_self h]
  · rw [if_neg e, List.getElem?_set_ne e]
theorem crash_eq (d : DiskT) (mk : List UInt8) (hs : Srt d.xsafe) (hw : Srt d.xwaits) : ∃ s', disk_Disk_Crash d mk = ⟨d.xsectors, s', [], false, -1⟩ ∧ Srt s' ∧ ∀ j, rd s' j = rd d.xsafe j ∨ (∃ v, mget d.xwaits j = some v ∧ rd s' j = v) := by
  obtain ⟨s', e, h1, h2⟩ := crash_all d mk d.xwaits 0 d.xsafe hw hs
  refine ⟨s', ?_, h1, h2⟩
  unfold disk_Disk_Crash disk_Disk_Waits
  simp only [bnd]
  rw [e]
theorem start_down (n : Int) (s : List Ent) (f : Int) : disk_Disk_Start ⟨n, s, [], false, f⟩ = ⟨n, s, [], true, -1⟩ := rfl
theorem read_eq (d : DiskT) (i : Int) : disk_Disk_Read d i = if d.xup = true then if i < 0 then ([], 61) else if i ≥ d.xsectors then ([], 61) else ((mget d.xwaits i).getD (rd d.xsafe i), 0) else ([], 60) := by
  unfold disk_Disk_Read rd
  simp only [bnd]
  cases mget d.xwaits i with
  | none => rfl
  | some v => rfl
theorem read_ok {d : DiskT} {i : Int} (hu : d.xup = true) (h0 : 0 ≤ i) (h1 : i < d.xsectors) : disk_Disk_Read d i = ((mget d.xwaits i).getD (rd d.xsafe i), 0) := by
  rw [read_eq, if_pos hu, if_neg (by omega), if_neg (by omega)]
end Go.Proofs.Ytmhhmhaigmjekaa
