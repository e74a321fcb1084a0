/-
  net: contracts by cases; same.
-/
import Derived.Test.YtbflloaamnphkaaNd
namespace Go.Proofs.Ytbflloaamnphkaa
open Go.RowKit
set_option linter.unusedVariables false
set_option linter.unusedSectionVars false

def Fine (ls : List Lt) : Prop := List.length ls ≤ 128 ∧ ∀ l : Lt, l ∈ ls → List.length l.bs ≤ 4103 ∧ 0 ≤ l.fr ∧ 0 ≤ l.to
theorem Fine.nil : Fine [] := ⟨by simp, fun l hl => by cases hl⟩
theorem Fine.push {ls : List Lt} (h : Fine ls) (hl : List.length ls < 128) (fr to : Int) (A : Option Addr) (c : Nat) (bs : List UInt8) (hb : List.length bs ≤ 4103) (h1 : 0 ≤ fr) (h2 : 0 ≤ to) : Fine (ls ++ [Lt.mk fr to A c bs]) :=
  ⟨by simp; omega, fun l hm => by
    rcases List.mem_append.1 hm with hm | hm
    · exact h.2 l hm
    · rw [List.mem_singleton.1 hm]; exact ⟨hb, h1, h2⟩⟩
theorem Fine.at_ {ls : List Lt} (h : Fine ls) {m : Nat} {l : Lt} (hl : ls[m]? = some l) : List.length l.bs ≤ 4103 ∧ 0 ≤ l.fr ∧ 0 ≤ l.to := h.2 l (List.mem_of_getElem? hl)
theorem Fine.erase {ls : List Lt} (h : Fine ls) (m : Nat) : Fine (List.eraseIdx ls m) :=
  ⟨Nat.le_trans (List.length_eraseIdx_le _ _) h.1, fun l hm => h.2 l (List.mem_of_mem_eraseIdx hm)⟩
theorem Fine.set {ls : List Lt} (h : Fine ls) {m : Nat} {l : Lt} (hl : ls[m]? = some l) (A : Option Addr) (c : Nat) (bs : List UInt8) (hb : List.length bs ≤ 4103) : Fine (List.set ls m (Lt.mk l.fr l.to A c bs)) :=
  ⟨by rw [List.length_set]; exact h.1, fun x hm => by
    rcases List.mem_or_eq_of_mem_set hm with hm | rfl
    · exact h.2 x hm
    · exact ⟨hb, (h.at_ hl).2⟩⟩
theorem Fine.keys {ls ds : List Lt} (h : Fine ls) (hk : Go.Proofs.Ytbflloaamnphkaa.keys ds = Go.Proofs.Ytbflloaamnphkaa.keys ls) : Fine ds := by
  refine ⟨?_, fun l hm => ?_⟩
  · have := congrArg List.length hk
    rw [len_keys, len_keys] at this
    rw [this]; exact h.1
  · have h1 : l.key ∈ Go.Proofs.Ytbflloaamnphkaa.keys ls := by rw [← hk]; exact List.mem_map.2 ⟨l, hm, rfl⟩
    obtain ⟨x, hx, e⟩ := List.mem_map.1 h1
    have := h.2 x hx
    simp only [Lt.key, Prod.mk.injEq] at e
    rw [← e.2.2, ← e.1, ← e.2.1]
    exact this
theorem keys_erase (ls : List Lt) (m : Nat) : List.eraseIdx (keys ls) m = keys (List.eraseIdx ls m) := map_erase _ _ _
theorem keys_set (ls : List Lt) (m : Nat) (x : Lt) : List.set (keys ls) m x.key = keys (List.set ls m x) := by simp [keys, List.map_set]
theorem drop_at {α : Type} {ds : List α} {k : Nat} {x : α} (h : ds[k]? = some x) : List.drop k ds = x :: List.drop (k + 1) ds := by
  obtain ⟨hk, rfl⟩ := List.getElem?_eq_some_iff.1 h
  exact List.drop_eq_getElem_cons hk
theorem in_range {n : Nat} {i : Int} (h : 0 ≤ i ∧ i < (n : Int)) : ∃ m : Nat, i = (m : Int) ∧ m < n := ⟨i.toNat, by omega, by omega⟩
section
variable (h : Nat) (ls : List Lt) (i : Int) (w : World) (D : Nat → Prop) (H : Own w D w [net h ls]) (hf : Fine ls)
include H hf
theorem Take_any : Calls Try.prog 9 #[.pointer (some ⟨h, 0, none⟩), .int .i64 i] w (Ret fun v w' => (∃ (m : Nat) (l : Lt), i = (m : Int) ∧ ls[m]? = some l ∧ v = .tuple #[.agg (Lt.cells l).toArray, .int .i64 0] ∧ Own w D w' [net h (List.eraseIdx ls m), Lt.own l]) ∨ (¬ (0 ≤ i ∧ i < ((List.length ls : Nat) : Int)) ∧ v = .tuple #[.agg (Lt.cells ⟨0, 0, none, 0, []⟩).toArray, .int .i64 5] ∧ Own w D w' [net h ls])) := by
  have hle := hf.1
  by_cases hi : 0 ≤ i ∧ i < ((List.length ls : Nat) : Int)
  · obtain ⟨m, rfl, hm⟩ := in_range hi
    obtain ⟨l, hl⟩ := at_of hm
    exact Ret.mono (Take_ok h m ls l w D H hl (by omega)) fun v w' r => .inl ⟨m, l, rfl, hl, r⟩
  · exact Ret.mono (Take_none h ls i w D H hi) fun v w' r => .inr ⟨hi, r⟩
theorem Drop_any : Calls Try.prog 11 #[.pointer (some ⟨h, 0, none⟩), .int .i64 i] w (Ret fun v w' => (∃ (m : Nat) (l : Lt), i = (m : Int) ∧ ls[m]? = some l ∧ v = .int .i64 0 ∧ Own w D w' [net h (List.eraseIdx ls m)]) ∨ (¬ (0 ≤ i ∧ i < ((List.length ls : Nat) : Int)) ∧ v = .int .i64 5 ∧ Own w D w' [net h ls])) := by
  have hle := hf.1
  by_cases hi : 0 ≤ i ∧ i < ((List.length ls : Nat) : Int)
  · obtain ⟨m, rfl, hm⟩ := in_range hi
    obtain ⟨l, hl⟩ := at_of hm
    exact Ret.mono (Drop_ok h ls m w D H l hl (by omega)) fun v w' r => .inl ⟨m, l, rfl, hl, r⟩
  · exact Ret.mono (Drop_none h ls i w D H hi) fun v w' r => .inr ⟨hi, r⟩
theorem Double_any : Calls Try.prog 12 #[.pointer (some ⟨h, 0, none⟩), .int .i64 i] w (Ret fun v w' => (∃ (m : Nat) (l : Lt), i = (m : Int) ∧ ls[m]? = some l ∧ 128 ≤ List.length ls ∧ v = .int .i64 62 ∧ Own w D w' [net h ls]) ∨ (∃ (m : Nat) (l : Lt), i = (m : Int) ∧ ls[m]? = some l ∧ List.length ls < 128 ∧ v = .int .i64 0 ∧ ∃ A' c', Own w D w' [net h (ls ++ [Lt.mk l.fr l.to A' c' l.bs])]) ∨ (¬ (0 ≤ i ∧ i < ((List.length ls : Nat) : Int)) ∧ v = .int .i64 5 ∧ Own w D w' [net h ls])) := by
  have hle := hf.1
  by_cases hi : 0 ≤ i ∧ i < ((List.length ls : Nat) : Int)
  · obtain ⟨m, rfl, hm⟩ := in_range hi
    obtain ⟨l, hl⟩ := at_of hm
    have := (hf.at_ hl).1
    exact Ret.mono (Double_ok h m ls l w D H hl (by omega)) fun v w' r => by
      rcases r with r | r
      · exact .inl ⟨m, l, rfl, hl, r⟩
      · exact .inr (.inl ⟨m, l, rfl, hl, r⟩)
  · exact Ret.mono (Double_none h ls i w D H hi) fun v w' r => .inr (.inr ⟨hi, r⟩)
theorem Spoil_any (A : Option Addr) (c : Nat) (bs : List UInt8) (hx : Ro w D fun w => Rds w 1 A (List.length bs) (List.flatMap eB bs)) : Calls Try.prog 14 #[.pointer (some ⟨h, 0, none⟩), .int .i64 i, .slice A (List.length bs) c] w (Ret fun v w' => (∃ (m : Nat) (l : Lt), i = (m : Int) ∧ ls[m]? = some l ∧ 4103 < List.length bs ∧ v = .int .i64 2 ∧ Own w D w' [net h ls]) ∨ (∃ (m : Nat) (l : Lt), i = (m : Int) ∧ ls[m]? = some l ∧ List.length bs ≤ 4103 ∧ v = .int .i64 0 ∧ ∃ A' c', Own w D w' [net h (List.set ls m (Lt.mk l.fr l.to A' c' bs))]) ∨ (¬ (0 ≤ i ∧ i < ((List.length ls : Nat) : Int)) ∧ v = .int .i64 5 ∧ Own w D w' [net h ls])) := by
  have hle := hf.1
  by_cases hi : 0 ≤ i ∧ i < ((List.length ls : Nat) : Int)
  · obtain ⟨m, rfl, hm⟩ := in_range hi
    obtain ⟨l, hl⟩ := at_of hm
    exact Ret.mono (Spoil_ok h m ls l A c bs w D H hl hx) fun v w' r => by
      rcases r with r | r
      · exact .inl ⟨m, l, rfl, hl, r⟩
      · exact .inr (.inl ⟨m, l, rfl, hl, r⟩)
  · exact Ret.mono (Spoil_none h ls i A (List.length bs) c w D H hi) fun v w' r => .inr (.inr ⟨hi, r⟩)
theorem Spoil_weak (A : Option Addr) (c : Nat) (bs : List UInt8) (hx : Ro w D fun w => Rds w 1 A (List.length bs) (List.flatMap eB bs)) : Calls Try.prog 14 #[.pointer (some ⟨h, 0, none⟩), .int .i64 i, .slice A (List.length bs) c] w (Ret fun v w' => ∃ e ls', v = .int .i64 e ∧ Own w D w' [net h ls']) :=
  Ret.mono (Spoil_any h ls i w D H hf A c bs hx) fun v w' r => by
    rcases r with ⟨_, _, _, _, _, e, r⟩ | ⟨_, _, _, _, _, e, _, _, r⟩ | ⟨_, e, r⟩ <;> exact ⟨_, _, e, r⟩
end
theorem Send_weak (h : Nat) (ls : List Lt) (fr to : Int) (A : Option Addr) (c : Nat) (bs : List UInt8) (w : World) (D : Nat → Prop) (H : Own w D w [net h ls]) (hx : Ro w D fun w => Rds w 1 A (List.length bs) (List.flatMap eB bs)) (hf : Fine ls) :
    Calls Try.prog 7 #[.pointer (some ⟨h, 0, none⟩), .int .i64 fr, .int .i64 to, .slice A (List.length bs) c] w (Ret fun v w' => ∃ e ls', v = .int .i64 e ∧ Fine ls' ∧ Own w D w' [net h ls']) :=
  Ret.mono (Send_ok h ls fr to A c bs w D H hx) fun v w' r => by
    rcases r with ⟨_, e, r⟩ | ⟨_, _, e, r⟩ | ⟨_, _, e, r⟩ | ⟨_, _, e, A', c', r⟩
    · exact ⟨_, _, e, hf, r⟩
    · exact ⟨_, _, e, hf, r⟩
    · exact ⟨_, _, e, hf, r⟩
    · exact ⟨_, _, e, hf.push (by omega) _ _ _ _ _ (by omega) (by omega) (by omega), r⟩
section
variable (g : Nat) (ls : List Lt) (i : Int) (w : World) (D : Nat → Prop) (H : Own w D w [rnet g (keys ls)]) (hf : Fine ls)
include H hf
theorem RTake_k (m : Nat) (l : Lt) (hi : i = (m : Int)) (hl : ls[m]? = some l) : Calls Try.prog 10 #[.pointer (some ⟨g, 0, none⟩), .int .i64 i] w (Ret fun v w' => v = .tuple #[.agg (kC (l.fr, l.to, l.bs)).toArray, .int .i64 0] ∧ Own w D w' [rnet g (keys (List.eraseIdx ls m))]) := by
  subst hi
  rw [← keys_erase]
  exact RTake_ok g m (keys ls) (l.fr, l.to, l.bs) w D H (key_at hl) (by rw [len_keys]; have := hf.1; omega)
theorem RTake_x (hi : ¬ (0 ≤ i ∧ i < ((List.length ls : Nat) : Int))) : Calls Try.prog 10 #[.pointer (some ⟨g, 0, none⟩), .int .i64 i] w (Ret fun v w' => v = .tuple #[.agg (kC (0, 0, [])).toArray, .int .i64 5] ∧ Own w D w' [rnet g (keys ls)]) :=
  RTake_none g (keys ls) i w D H (by rw [len_keys]; exact hi)
theorem RDouble_x (hi : ¬ (0 ≤ i ∧ i < ((List.length ls : Nat) : Int))) : Calls Try.prog 13 #[.pointer (some ⟨g, 0, none⟩), .int .i64 i] w (Ret fun v w' => v = .int .i64 5 ∧ Own w D w' [rnet g (keys ls)]) :=
  RDouble_none g (keys ls) i w D H (by rw [len_keys]; exact hi)
theorem RSpoil_x (bs : List UInt8) (hi : ¬ (0 ≤ i ∧ i < ((List.length ls : Nat) : Int))) : Calls Try.prog 15 #[.pointer (some ⟨g, 0, none⟩), .int .i64 i, .string ⟨bs.toArray⟩] w (Ret fun v w' => v = .int .i64 5 ∧ Own w D w' [rnet g (keys ls)]) :=
  RSpoil_none g (keys ls) i bs w D H (by rw [len_keys]; exact hi)
theorem RDouble_full (m : Nat) (l : Lt) (hi : i = (m : Int)) (hl : ls[m]? = some l) (h1 : 128 ≤ List.length ls) : Calls Try.prog 13 #[.pointer (some ⟨g, 0, none⟩), .int .i64 i] w (Ret fun v w' => v = .int .i64 62 ∧ Own w D w' [rnet g (keys ls)]) := by
  subst hi
  have hk := hf.at_ hl
  refine Ret.mono (RDouble_ok g m (keys ls) (l.fr, l.to, l.bs) w D H (key_at hl) (by rw [len_keys]; have := hf.1; omega) hk.2.1 hk.2.2 hk.1) fun v w' r => ?_
  rw [len_keys] at r
  rcases r with r | r
  · exact r.2
  · have := r.1; omega
theorem RDouble_k (m : Nat) (l : Lt) (A : Option Addr) (c : Nat) (hi : i = (m : Int)) (hl : ls[m]? = some l) (h1 : List.length ls < 128) : Calls Try.prog 13 #[.pointer (some ⟨g, 0, none⟩), .int .i64 i] w (Ret fun v w' => v = .int .i64 0 ∧ Own w D w' [rnet g (keys (ls ++ [Lt.mk l.fr l.to A c l.bs]))]) := by
  subst hi
  have hk := hf.at_ hl
  refine Ret.mono (RDouble_ok g m (keys ls) (l.fr, l.to, l.bs) w D H (key_at hl) (by rw [len_keys]; have := hf.1; omega) hk.2.1 hk.2.2 hk.1) fun v w' r => ?_
  rw [len_keys] at r
  rcases r with r | r
  · have := r.1; omega
  · have e : keys (ls ++ [Lt.mk l.fr l.to A c l.bs]) = keys ls ++ [(l.fr, l.to, l.bs)] := by simp [keys, Lt.key]
    rw [e]; exact r.2
theorem RSpoil_long (m : Nat) (l : Lt) (bs : List UInt8) (hi : i = (m : Int)) (hl : ls[m]? = some l) (h1 : 4103 < List.length bs) : Calls Try.prog 15 #[.pointer (some ⟨g, 0, none⟩), .int .i64 i, .string ⟨bs.toArray⟩] w (Ret fun v w' => v = .int .i64 2 ∧ Own w D w' [rnet g (keys ls)]) := by
  subst hi
  refine Ret.mono (RSpoil_ok g m (keys ls) (l.fr, l.to, l.bs) bs w D H (key_at hl) (by rw [len_keys]; have := hf.1; omega)) fun v w' r => ?_
  rcases r with r | r
  · exact r.2
  · have := r.1; omega
theorem RSpoil_k (m : Nat) (l : Lt) (A : Option Addr) (c : Nat) (bs : List UInt8) (hi : i = (m : Int)) (hl : ls[m]? = some l) (h1 : List.length bs ≤ 4103) : Calls Try.prog 15 #[.pointer (some ⟨g, 0, none⟩), .int .i64 i, .string ⟨bs.toArray⟩] w (Ret fun v w' => v = .int .i64 0 ∧ Own w D w' [rnet g (keys (List.set ls m (Lt.mk l.fr l.to A c bs)))]) := by
  subst hi
  refine Ret.mono (RSpoil_ok g m (keys ls) (l.fr, l.to, l.bs) bs w D H (key_at hl) (by rw [len_keys]; have := hf.1; omega)) fun v w' r => ?_
  rcases r with r | r
  · have := r.1; omega
  · rw [← keys_set]; exact r.2
end
theorem RSend_k (g : Nat) (ls ls' : List Lt) (fr to : Int) (bs : List UInt8) (e : Int) (w : World) (D : Nat → Prop) (H : Own w D w [rnet g (keys ls)]) (hb : List.length bs ≤ 1000000)
    (hc : ((fr < 0 ∨ to < 0) ∧ e = 1 ∧ ls' = ls) ∨ ((0 ≤ fr ∧ 0 ≤ to) ∧ 4103 < List.length bs ∧ e = 2 ∧ ls' = ls) ∨ ((0 ≤ fr ∧ 0 ≤ to ∧ List.length bs ≤ 4103) ∧ 128 ≤ List.length ls ∧ e = 62 ∧ ls' = ls) ∨ ((0 ≤ fr ∧ 0 ≤ to ∧ List.length bs ≤ 4103) ∧ List.length ls < 128 ∧ e = 0 ∧ ∃ A c, ls' = ls ++ [Lt.mk fr to A c bs])) :
    Calls Try.prog 8 #[.pointer (some ⟨g, 0, none⟩), .int .i64 fr, .int .i64 to, .string ⟨bs.toArray⟩] w (Ret fun v w' => v = .int .i64 e ∧ Own w D w' [rnet g (keys ls')]) :=
  Ret.mono (RSend_ok g (keys ls) fr to bs w D H hb) fun v w' r => by
    rw [len_keys] at r
    rcases hc with ⟨c1, rfl, rfl⟩ | ⟨c1, c2, rfl, rfl⟩ | ⟨c1, c2, rfl, rfl⟩ | ⟨c1, c2, rfl, A, c, rfl⟩ <;> rcases r with r | r | r | r
    all_goals first | (exfalso; have r1 := r.1; omega) | (exfalso; have r1 := r.1; have r2 := r.2.1; omega) | exact r.2 | exact r.2.2 | skip
    have e : keys (ls ++ [Lt.mk fr to A c bs]) = keys ls ++ [(fr, to, bs)] := by simp [keys, Lt.key]
    rw [e]; exact r.2.2

set_option maxRecDepth 100000 in
theorem same_ok (h g : Nat) (ls : List Lt) (w : World) (D : Nat → Prop) (H : Own w D w [net h ls, rnet g (keys ls)]) (hf : Fine ls) :
    Calls Try.prog 16 #[.pointer (some ⟨h, 0, none⟩), .pointer (some ⟨g, 0, none⟩)] w (Ret fun v w' => v = .bool true ∧ Own w D w' [net h ls, rnet g (keys ls)]) := by
  refine Calls.body (args := [.pointer (some ⟨h, 0, none⟩), .pointer (some ⟨g, 0, none⟩)]) Try.func16 rfl rfl rfl ?_
  show Wp _ _ _ [(0, .pointer (some ⟨h, 0, none⟩)), (1, .pointer (some ⟨g, 0, none⟩))] _ _
  have hkl := len_keys ls
  have hle := hf.1
  have H1 : Own w D w [rnet g (keys ls), net h ls] := H.pick [1, 0] (by decide) rfl
  obtain ⟨A2, c3, H4⟩ := rnet.open H1
  have H4le := (H4.rowLe (i := 1) rfl).1
  have H4le2 := (H4.rowLe (i := 1) rfl).2.1
  unfold maxLen at H4le2
  refine Wp.seq ?_
  refine Wp.region ?_
  refine WL.val (v := .bool false) rfl (Yl.assign rfl) ?_
  refine WL.nil ?_
  refine Fin.then ?_
  refine Wp.seq ?_
  refine Wp.region ?_
  refine WL.val (v := .pointer (some ⟨h, 0, none⟩)) rfl (Yl.move rfl) ?_
  have H5 : Own w D w [net h ls, blk g [.slice A2 (List.length (keys ls)) c3] 29, row A2 (List.length (keys ls)) c3 (List.flatMap kC (keys ls)) 41 3] := H4.pick [2, 0, 1] (by decide) rfl
  obtain ⟨D6, HP7, ro8, bk9, rr10⟩ := Own.enter (L1 := [net h ls]) (L2 := [blk g [.slice A2 (List.length (keys ls)) c3] 29, row A2 (List.length (keys ls)) c3 (List.flatMap kC (keys ls)) 41 3]) H5
  refine WL.do rfl (Do.call Try.call19 rfl (All_ok h ls _ _ HP7 (by omega) (fun l hl => by have := (hf.2 l hl).1; omega)) ?_)
  rintro _ w11 ⟨A13, ds14, rfl, hd15, hk16, HQ12⟩
  have H17 : Own w D w11 [net h ls, row A13 (List.length ls) (List.length ls) (List.flatMap Lt.cells ds14) 37 3, sepL (List.map Lt.own ds14), blk g [.slice A2 (List.length (keys ls)) c3] 29, row A2 (List.length (keys ls)) c3 (List.flatMap kC (keys ls)) 41 3] := bk9 _ _ HQ12
  refine WL.val (v := .slice A13 (List.length ls) (List.length ls)) rfl (Yl.assign rfl) ?_
  refine WL.nil ?_
  refine Fin.then ?_
  refine Wp.seq ?_
  refine Wp.seq ?_
  have H19 := H17.drew
  refine Wp.drawn (Keep [] (fun W => ∃ L', Own w D W ([net h ls, row A13 (List.length ls) (List.length ls) (List.flatMap Lt.cells ds14) 37 3, sepL (List.map Lt.own ds14), blk g [.slice A2 (List.length (keys ls)) c3] 29, row A2 (List.length (keys ls)) c3 (List.flatMap kC (keys ls)) 41 3] ++ L'))) (by kernel_rfl) (.inr ⟨_, H19⟩) ?_
  revert H19
  generalize World.drew w11 = w18
  intro H19
  replace H19 : Own w D w18 [net h ls, row A13 (List.length ls) (List.length ls) (List.flatMap Lt.cells ds14) 37 3, sepL (List.map Lt.own ds14), blk g [.slice A2 (List.length (keys ls)) c3] 29, row A2 (List.length (keys ls)) c3 (List.flatMap kC (keys ls)) 41 3] := H19
  show GW _ _ _ _ 18 #[false, false, false, false, false, false, false, false, false, false, false, false, false, false, false, false, false, false] _ _ _
  refine GW.take (v := .slice A13 (List.length ls) (List.length ls)) (i := 0) (l' := #[true, false, false, false, false, false, false, false, false, false, false, false, false, false, false, false, false, false]) (rs := []) rfl (by kernel_rfl) rfl (NoP.then (NoP.then NoP.base)) (by kernel_rfl) (by kernel_rfl) (by kernel_rfl) (by kernel_rfl) (fun _ _ => Yl.move rfl) ?_
  refine GW.take (v := .int .i64 ((List.length ls : Nat) : Int)) (i := 1) (l' := #[true, true, false, false, false, false, false, false, false, false, false, false, false, false, false, false, false, false]) (rs := []) rfl (by kernel_rfl) rfl (NoP.then (NoP.then NoP.base)) (by kernel_rfl) (by kernel_rfl) (by kernel_rfl) (by kernel_rfl) (fun _ _ => Yl.kern rfl rfl (fun _ => by kernel_rfl)) ?_
  refine GW.take (v := .pointer (some ⟨g, 0, none⟩)) (i := 2) (l' := #[true, true, true, false, false, false, false, false, false, false, false, false, false, false, false, false, false, false]) (rs := []) rfl (by kernel_rfl) rfl (NoP.then (NoP.then NoP.base)) (by kernel_rfl) (by kernel_rfl) (by kernel_rfl) (by kernel_rfl) (fun _ _ => Yl.move rfl) ?_
  refine GW.take (v := .pointer (some ⟨g, 0, none⟩)) (i := 3) (l' := #[true, true, true, true, false, false, false, false, false, false, false, false, false, false, false, false, false, false]) (rs := []) rfl (by kernel_rfl) rfl (NoP.then (NoP.then NoP.base)) (by kernel_rfl) (by kernel_rfl) (by kernel_rfl) (by kernel_rfl) (fun _ _ => Yl.kern rfl rfl (fun _ => by kernel_rfl)) ?_
  refine GW.take (v := .pointer (some ⟨g, 0, none⟩)) (i := 4) (l' := #[true, true, true, true, true, false, false, false, false, false, false, false, false, false, false, false, false, false]) (rs := []) rfl (by kernel_rfl) rfl (NoP.then (NoP.then NoP.base)) (by kernel_rfl) (by kernel_rfl) (by kernel_rfl) (by kernel_rfl) (fun _ _ => Yl.kern rfl rfl (fun _ => by kernel_rfl)) ?_
  refine GW.take (v := .slice A2 (List.length (keys ls)) c3) (i := 5) (l' := #[true, true, true, true, true, true, false, false, false, false, false, false, false, false, false, false, false, false]) (rs := []) rfl (by kernel_rfl) rfl (NoP.then (NoP.then NoP.base)) (by kernel_rfl) (by kernel_rfl) (by kernel_rfl) (by kernel_rfl) (fun _ ⟨_, H9⟩ => Yl.load rfl (Lds.one Try.isAgg27 (Cls.of (H9.cls (i := 3) rfl) rfl))) ?_
  refine GW.take (v := .int .i64 ((List.length (keys ls) : Nat) : Int)) (i := 6) (l' := #[true, true, true, true, true, true, true, false, false, false, false, false, false, false, false, false, false, false]) (rs := []) rfl (by kernel_rfl) rfl (NoP.then (NoP.then NoP.base)) (by kernel_rfl) (by kernel_rfl) (by kernel_rfl) (by kernel_rfl) (fun _ _ => Yl.kern rfl rfl (fun _ => by kernel_rfl)) ?_
  refine GW.take (v := .bool (decide (¬ (((List.length ls : Nat) : Int) = ((List.length (keys ls) : Nat) : Int))))) (i := 7) (l' := #[true, true, true, true, true, true, true, true, false, false, false, false, false, false, false, false, false, false]) (rs := []) rfl (by kernel_rfl) rfl (NoP.then (NoP.then NoP.base)) (by kernel_rfl) (by kernel_rfl) (by kernel_rfl) (by kernel_rfl) (fun _ _ => Yl.bool (e := !(decide (((List.length ls : Nat) : Int) = ((List.length (keys ls) : Nat) : Int)))) (Yl.kern rfl rfl (fun _ => by kernel_rfl)) decide_not.symm) ?_
  refine GW.take (v := .bool (decide (¬ (((List.length ls : Nat) : Int) = ((List.length (keys ls) : Nat) : Int))))) (i := 8) (l' := #[true, true, true, true, true, true, true, true, true, false, false, false, false, false, false, false, false, false]) (rs := []) rfl (by kernel_rfl) rfl (NoP.then (NoP.then NoP.base)) (by kernel_rfl) (by kernel_rfl) (by kernel_rfl) (by kernel_rfl) (fun _ _ => Yl.move rfl) ?_
  have hb21 : (decide (¬ (((List.length ls : Nat) : Int) = ((List.length (keys ls) : Nat) : Int)))) = false := (decide_eq_false (by omega))
  refine GW.takeG (v := .pointer (some ⟨h, 0, none⟩)) (i := 9) (l' := #[true, true, true, true, true, true, true, true, true, true, false, false, false, false, false, false, false, false]) (rs := []) rfl rfl rfl hb21 (by kernel_rfl) rfl (NoP.then (NoP.then NoP.base)) (by kernel_rfl) (by kernel_rfl) (by kernel_rfl) (by kernel_rfl) (fun _ _ => Yl.move rfl) ?_
  refine GW.takeG (v := .pointer (some ⟨g, 0, none⟩)) (i := 11) (l' := #[true, true, true, true, true, true, true, true, true, true, false, true, false, false, false, false, false, false]) (rs := []) rfl rfl rfl hb21 (by kernel_rfl) rfl (NoP.then (NoP.then NoP.base)) (by kernel_rfl) (by kernel_rfl) (by kernel_rfl) (by kernel_rfl) (fun _ _ => Yl.move rfl) ?_
  refine GW.takeG (v := .pointer (some ⟨g, 0, none⟩)) (i := 12) (l' := #[true, true, true, true, true, true, true, true, true, true, false, true, true, false, false, false, false, false]) (rs := []) rfl rfl rfl hb21 (by kernel_rfl) rfl (NoP.then (NoP.then NoP.base)) (by kernel_rfl) (by kernel_rfl) (by kernel_rfl) (by kernel_rfl) (fun _ _ => Yl.kern rfl rfl (fun _ => by kernel_rfl)) ?_
  refine GW.takeG (v := .pointer (some ⟨g, 0, none⟩)) (i := 13) (l' := #[true, true, true, true, true, true, true, true, true, true, false, true, true, true, false, false, false, false]) (rs := []) rfl rfl rfl hb21 (by kernel_rfl) rfl (NoP.then (NoP.then NoP.base)) (by kernel_rfl) (by kernel_rfl) (by kernel_rfl) (by kernel_rfl) (fun _ _ => Yl.kern rfl rfl (fun _ => by kernel_rfl)) ?_
  refine GW.takeG (v := .slice A2 (List.length (keys ls)) c3) (i := 14) (l' := #[true, true, true, true, true, true, true, true, true, true, false, true, true, true, true, false, false, false]) (rs := []) rfl rfl rfl hb21 (by kernel_rfl) rfl (NoP.then (NoP.then NoP.base)) (by kernel_rfl) (by kernel_rfl) (by kernel_rfl) (by kernel_rfl) (fun _ ⟨_, H9⟩ => Yl.load rfl (Lds.one Try.isAgg27 (Cls.of (H9.cls (i := 3) rfl) rfl))) ?_
  refine GW.takeG (v := .int .i64 ((List.length (keys ls) : Nat) : Int)) (i := 15) (l' := #[true, true, true, true, true, true, true, true, true, true, false, true, true, true, true, true, false, false]) (rs := []) rfl rfl rfl hb21 (by kernel_rfl) rfl (NoP.then (NoP.then NoP.base)) (by kernel_rfl) (by kernel_rfl) (by kernel_rfl) (by kernel_rfl) (fun _ _ => Yl.kern rfl rfl (fun _ => by kernel_rfl)) ?_
  obtain ⟨D22, HP23, ro24, bk25, rr26⟩ := Own.enter (L1 := [net h ls]) (L2 := [row A13 (List.length ls) (List.length ls) (List.flatMap Lt.cells ds14) 37 3, sepL (List.map Lt.own ds14), blk g [.slice A2 (List.length (keys ls)) c3] 29, row A2 (List.length (keys ls)) c3 (List.flatMap kC (keys ls)) 41 3]) H19
  refine GW.doG (i := 10) (l' := #[true, true, true, true, true, true, true, true, true, true, true, true, true, true, true, true, false, false]) rfl rfl rfl hb21 rfl (by kernel_rfl) (by kernel_rfl) (Do.call Try.call18 rfl (Len_ok h ls _ _ HP23) ?_)
  rintro _ w27 ⟨rfl, HQ28⟩
  have H29 : Own w D w27 [net h ls, row A13 (List.length ls) (List.length ls) (List.flatMap Lt.cells ds14) 37 3, sepL (List.map Lt.own ds14), blk g [.slice A2 (List.length (keys ls)) c3] 29, row A2 (List.length (keys ls)) c3 (List.flatMap kC (keys ls)) 41 3] := bk25 _ _ HQ28
  refine ⟨.inr ⟨_, H29⟩, ?_⟩
  show GW _ _ _ _ 2 #[true, true, true, true, true, true, true, true, true, true, true, true, true, true, true, true, false, false] _ _ _
  refine GW.takeG (v := .bool (decide (¬ (((List.length ls : Nat) : Int) = ((List.length (keys ls) : Nat) : Int))))) (i := 16) (l' := #[true, true, true, true, true, true, true, true, true, true, true, true, true, true, true, true, true, false]) (rs := []) rfl rfl rfl hb21 (by kernel_rfl) rfl (NoP.then (NoP.then NoP.base)) (by kernel_rfl) (by kernel_rfl) (by kernel_rfl) (by kernel_rfl) (fun _ _ => Yl.bool (e := !(decide (((List.length ls : Nat) : Int) = ((List.length (keys ls) : Nat) : Int)))) (Yl.kern rfl rfl (fun _ => by kernel_rfl)) decide_not.symm) ?_
  refine GW.take (v := .bool (decide (¬ (((List.length ls : Nat) : Int) = ((List.length (keys ls) : Nat) : Int))))) (i := 17) (l' := #[true, true, true, true, true, true, true, true, true, true, true, true, true, true, true, true, true, true]) (rs := []) rfl (by kernel_rfl) rfl (NoP.then (NoP.then NoP.base)) (by kernel_rfl) (by kernel_rfl) (by kernel_rfl) (by kernel_rfl) (fun _ _ => Yl.pickF rfl hb21 rfl) ?_
  refine GW.done (by kernel_rfl) ?_
  refine Fin.then ?_
  refine Wp.cond0 rfl hb21 ?_
  refine Wp.skip ?_
  refine Fin.then ?_
  refine Wp.seq ?_
  refine Wp.seq ?_
  refine Wp.region ?_
  refine WL.val (v := .slice A13 (List.length ls) (List.length ls)) rfl (Yl.move rfl) ?_
  refine WL.val (v := .int .i64 ((List.length ls : Nat) : Int)) rfl (Yl.kern rfl rfl (fun _ => by kernel_rfl)) ?_
  refine WL.val (v := .int .i64 0) rfl (Yl.move rfl) ?_
  refine WL.nil ?_
  refine Fin.then ?_
  refine Wp.block ?_
  have H30 : Own w D w27 [net h ls, blk g [.slice A2 (List.length (keys ls)) c3] 29, row A2 (List.length (keys ls)) c3 (List.flatMap kC (keys ls)) 41 3, row A13 (List.length ls) (List.length ls) (List.flatMap Lt.cells ds14) 37 3, sepL (List.map Lt.own ds14)] := H29.pick [0, 3, 4, 1, 2] (by decide) rfl
  have H31 : Own w D w27 [net h ls, blk g [.slice A2 (List.length (keys ls)) c3] 29, row A2 (List.length (keys ls)) c3 (List.flatMap kC (keys ls)) 41 3, row A13 (List.length ls) (List.length ls) (List.flatMap Lt.cells ds14) 37 3, sepL (List.map Lt.own ds14)] := H30.pick [0, 1, 2, 3, 4] (by decide) rfl
  refine Wp.loop (ι := Nat × (List Lt)) (fun i => [(30, .int .i64 ((i.1 : Nat) : Int)), (29, .int .i64 ((List.length ls : Nat) : Int)), (28, .slice A13 (List.length ls) (List.length ls)), (27, .bool (decide (¬ (((List.length ls : Nat) : Int) = ((List.length (keys ls) : Nat) : Int))))), (26, .bool (decide (¬ (((List.length ls : Nat) : Int) = ((List.length (keys ls) : Nat) : Int))))), (20, .int .i64 ((List.length ls : Nat) : Int)), (25, .int .i64 ((List.length (keys ls) : Nat) : Int)), (24, .slice A2 (List.length (keys ls)) c3), (23, .pointer (some ⟨g, 0, none⟩)), (22, .pointer (some ⟨g, 0, none⟩)), (21, .pointer (some ⟨g, 0, none⟩)), (19, .pointer (some ⟨h, 0, none⟩)), (18, .bool (decide (¬ (((List.length ls : Nat) : Int) = ((List.length (keys ls) : Nat) : Int))))), (17, .bool (decide (¬ (((List.length ls : Nat) : Int) = ((List.length (keys ls) : Nat) : Int))))), (16, .int .i64 ((List.length (keys ls) : Nat) : Int)), (15, .slice A2 (List.length (keys ls)) c3), (14, .pointer (some ⟨g, 0, none⟩)), (13, .pointer (some ⟨g, 0, none⟩)), (12, .pointer (some ⟨g, 0, none⟩)), (11, .int .i64 ((List.length ls : Nat) : Int)), (10, .slice A13 (List.length ls) (List.length ls)), (5, .slice A13 (List.length ls) (List.length ls)), (9, .slice A13 (List.length ls) (List.length ls)), (8, .pointer (some ⟨h, 0, none⟩)), (0, .pointer (some ⟨h, 0, none⟩)), (1, .pointer (some ⟨g, 0, none⟩))]) (fun (i : Nat × (List Lt)) w' => Own w D w' [net h ls, blk g [.slice A2 (List.length (keys ls)) c3] 29, row A2 (List.length (keys ls)) c3 (List.flatMap kC (keys ls)) 41 3, row A13 (List.length ls) (List.length ls) (List.flatMap Lt.cells i.2) 37 3, sepL (List.map Lt.own (List.drop i.1 ds14))] ∧ (i.1 ≤ List.length ls ∧ ∀ q : Nat, i.1 ≤ q → i.2[q]? = ds14[q]?)) (fun i => List.length ls - i.1) (0, ds14) ⟨rfl, rfl, rfl, rfl, rfl, rfl, rfl, rfl, rfl, rfl, rfl, rfl, rfl, rfl, rfl, rfl, rfl, rfl, rfl, rfl, rfl, rfl, rfl, rfl, rfl, rfl, trivial⟩ ⟨H31, (show 0 ≤ List.length ls ∧ ∀ q : Nat, 0 ≤ q → ds14[q]? = ds14[q]? from ⟨by omega, fun i _ => rfl⟩)⟩ ?_
  rintro ⟨k, ds2⟩ w32 ⟨H33, hf34⟩
  show Wp _ _ _ [(30, .int .i64 ((k : Nat) : Int)), (29, .int .i64 ((List.length ls : Nat) : Int)), (28, .slice A13 (List.length ls) (List.length ls)), (27, .bool (decide (¬ (((List.length ls : Nat) : Int) = ((List.length (keys ls) : Nat) : Int))))), (26, .bool (decide (¬ (((List.length ls : Nat) : Int) = ((List.length (keys ls) : Nat) : Int))))), (20, .int .i64 ((List.length ls : Nat) : Int)), (25, .int .i64 ((List.length (keys ls) : Nat) : Int)), (24, .slice A2 (List.length (keys ls)) c3), (23, .pointer (some ⟨g, 0, none⟩)), (22, .pointer (some ⟨g, 0, none⟩)), (21, .pointer (some ⟨g, 0, none⟩)), (19, .pointer (some ⟨h, 0, none⟩)), (18, .bool (decide (¬ (((List.length ls : Nat) : Int) = ((List.length (keys ls) : Nat) : Int))))), (17, .bool (decide (¬ (((List.length ls : Nat) : Int) = ((List.length (keys ls) : Nat) : Int))))), (16, .int .i64 ((List.length (keys ls) : Nat) : Int)), (15, .slice A2 (List.length (keys ls)) c3), (14, .pointer (some ⟨g, 0, none⟩)), (13, .pointer (some ⟨g, 0, none⟩)), (12, .pointer (some ⟨g, 0, none⟩)), (11, .int .i64 ((List.length ls : Nat) : Int)), (10, .slice A13 (List.length ls) (List.length ls)), (5, .slice A13 (List.length ls) (List.length ls)), (9, .slice A13 (List.length ls) (List.length ls)), (8, .pointer (some ⟨h, 0, none⟩)), (0, .pointer (some ⟨h, 0, none⟩)), (1, .pointer (some ⟨g, 0, none⟩))] _ _
  replace H33 : Own w D w32 [net h ls, blk g [.slice A2 (List.length (keys ls)) c3] 29, row A2 (List.length (keys ls)) c3 (List.flatMap kC (keys ls)) 41 3, row A13 (List.length ls) (List.length ls) (List.flatMap Lt.cells ds2) 37 3, sepL (List.map Lt.own (List.drop k ds14))] := H33
  replace hf34 : k ≤ List.length ls ∧ ∀ q : Nat, k ≤ q → ds2[q]? = ds14[q]? := hf34
  obtain ⟨hk0, hs⟩ := hf34
  refine Wp.seq ?_
  refine Wp.region ?_
  refine WL.val (v := .bool (decide (((k : Nat) : Int) < ((List.length ls : Nat) : Int)))) rfl (Yl.kern rfl rfl (fun _ => by kernel_rfl)) ?_
  refine WL.nil ?_
  refine Fin.then ?_
  refine Wp.seq ?_
  by_cases h35 : ((k : Nat) : Int) < ((List.length ls : Nat) : Int)
  · skip
    refine Wp.cond1 rfl (decide_eq_true h35) ?_
    refine Wp.skip ?_
    refine Fin.then ?_
    refine Wp.seq ?_
    refine Wp.block ?_
    refine Wp.seq ?_
    refine Wp.region ?_
    refine WL.val (v := .int .i64 ((k : Nat) : Int)) rfl (Yl.move rfl) ?_
    refine WL.val (v := .int .i64 ((k : Nat) : Int)) rfl (Yl.assign rfl) ?_
    refine WL.nil ?_
    refine Fin.then ?_
    refine Wp.seq ?_
    refine Wp.seq ?_
    obtain ⟨x36, hx36⟩ := rds_at (ls := ds2) (i := k) Lt.len (by decide) (H33.rds (i := 3) rfl) (by omega)
    have gx36 : ds14[k]? = some x36 := by rw [← hs k (Nat.le_refl _)]; exact hx36
    have yx36 : (keys ls)[k]? = some (x36.fr, x36.to, x36.bs) := by rw [← hk16]; exact key_at gx36
    have dx36 := drop_at gx36
    have bx36 := ((hf.keys hk16).at_ gx36).1
    have zx36 : (List.drop k ds14)[0]? = some x36 := by rw [dx36]; rfl
    have H38 := H33.drew
    refine Wp.drawn (Keep [] (fun W => ∃ L', Own w D W ([net h ls, blk g [.slice A2 (List.length (keys ls)) c3] 29, row A2 (List.length (keys ls)) c3 (List.flatMap kC (keys ls)) 41 3, row A13 (List.length ls) (List.length ls) (List.flatMap Lt.cells ds2) 37 3, sepL (List.map Lt.own (List.drop k ds14))] ++ L'))) (by kernel_rfl) (.inr ⟨_, H38⟩) ?_
    revert H38
    generalize World.drew w32 = w37
    intro H38
    replace H38 : Own w D w37 [net h ls, blk g [.slice A2 (List.length (keys ls)) c3] 29, row A2 (List.length (keys ls)) c3 (List.flatMap kC (keys ls)) 41 3, row A13 (List.length ls) (List.length ls) (List.flatMap Lt.cells ds2) 37 3, sepL (List.map Lt.own (List.drop k ds14))] := H38
    show GW _ _ _ _ 47 #[false, false, false, false, false, false, false, false, false, false, false, false, false, false, false, false, false, false, false, false, false, false, false, false, false, false, false, false, false, false, false, false, false, false, false, false, false, false, false, false, false, false, false, false, false, false, false] _ _ _
    refine GW.take (v := .slice A13 (List.length ls) (List.length ls)) (i := 0) (l' := #[true, false, false, false, false, false, false, false, false, false, false, false, false, false, false, false, false, false, false, false, false, false, false, false, false, false, false, false, false, false, false, false, false, false, false, false, false, false, false, false, false, false, false, false, false, false, false]) (rs := []) rfl (by kernel_rfl) rfl (NoP.then (NoP.then (NoP.block (NoP.then (NoP.then (NoP.block (NoP.then NoP.base))))))) (by kernel_rfl) (by kernel_rfl) (by kernel_rfl) (by kernel_rfl) (fun _ _ => Yl.move rfl) ?_
    refine GW.take (v := .int .i64 ((k : Nat) : Int)) (i := 1) (l' := #[true, true, false, false, false, false, false, false, false, false, false, false, false, false, false, false, false, false, false, false, false, false, false, false, false, false, false, false, false, false, false, false, false, false, false, false, false, false, false, false, false, false, false, false, false, false, false]) (rs := []) rfl (by kernel_rfl) rfl (NoP.then (NoP.then (NoP.block (NoP.then (NoP.then (NoP.block (NoP.then NoP.base))))))) (by kernel_rfl) (by kernel_rfl) (by kernel_rfl) (by kernel_rfl) (fun _ _ => Yl.move rfl) ?_
    refine GW.take (v := .pointer (some ⟨ab A13, ao A13 + k * 3, none⟩)) (i := 2) (l' := #[true, true, true, false, false, false, false, false, false, false, false, false, false, false, false, false, false, false, false, false, false, false, false, false, false, false, false, false, false, false, false, false, false, false, false, false, false, false, false, false, false, false, false, false, false, false, false]) (rs := []) rfl (by kernel_rfl) rfl (NoP.then (NoP.then (NoP.block (NoP.then (NoP.then (NoP.block (NoP.then NoP.base))))))) (by kernel_rfl) (by kernel_rfl) (by kernel_rfl) (by kernel_rfl) (fun _ ⟨_, H9⟩ => Yl.indexAddr (El52) rfl rfl ((H9.rds (i := 3) rfl).addr (i := k) (by omega)) (by omega)) ?_
    refine GW.take (v := .pointer (some ⟨ab A13, ao A13 + k * 3, none⟩)) (i := 3) (l' := #[true, true, true, true, false, false, false, false, false, false, false, false, false, false, false, false, false, false, false, false, false, false, false, false, false, false, false, false, false, false, false, false, false, false, false, false, false, false, false, false, false, false, false, false, false, false, false]) (rs := []) rfl (by kernel_rfl) rfl (NoP.then (NoP.then (NoP.block (NoP.then (NoP.then (NoP.block (NoP.then NoP.base))))))) (by kernel_rfl) (by kernel_rfl) (by kernel_rfl) (by kernel_rfl) (fun _ _ => Yl.kern rfl rfl (fun _ => by kernel_rfl)) ?_
    refine GW.take (v := .int .i64 x36.fr) (i := 4) (l' := #[true, true, true, true, true, false, false, false, false, false, false, false, false, false, false, false, false, false, false, false, false, false, false, false, false, false, false, false, false, false, false, false, false, false, false, false, false, false, false, false, false, false, false, false, false, false, false]) (rs := []) rfl (by kernel_rfl) rfl (NoP.then (NoP.then (NoP.block (NoP.then (NoP.then (NoP.block (NoP.then NoP.base))))))) (by kernel_rfl) (by kernel_rfl) (by kernel_rfl) (by kernel_rfl) (fun _ ⟨_, H9⟩ => Yl.load rfl (Lds.one Try.isAgg3 (((H9.rds (i := 3) rfl).elem Lt.len hx36 (by decide)).at_ (k := 0) rfl))) ?_
    refine GW.take (v := .pointer (some ⟨g, 0, none⟩)) (i := 5) (l' := #[true, true, true, true, true, true, false, false, false, false, false, false, false, false, false, false, false, false, false, false, false, false, false, false, false, false, false, false, false, false, false, false, false, false, false, false, false, false, false, false, false, false, false, false, false, false, false]) (rs := []) rfl (by kernel_rfl) rfl (NoP.then (NoP.then (NoP.block (NoP.then (NoP.then (NoP.block (NoP.then NoP.base))))))) (by kernel_rfl) (by kernel_rfl) (by kernel_rfl) (by kernel_rfl) (fun _ _ => Yl.move rfl) ?_
    refine GW.take (v := .pointer (some ⟨g, 0, none⟩)) (i := 6) (l' := #[true, true, true, true, true, true, true, false, false, false, false, false, false, false, false, false, false, false, false, false, false, false, false, false, false, false, false, false, false, false, false, false, false, false, false, false, false, false, false, false, false, false, false, false, false, false, false]) (rs := []) rfl (by kernel_rfl) rfl (NoP.then (NoP.then (NoP.block (NoP.then (NoP.then (NoP.block (NoP.then NoP.base))))))) (by kernel_rfl) (by kernel_rfl) (by kernel_rfl) (by kernel_rfl) (fun _ _ => Yl.kern rfl rfl (fun _ => by kernel_rfl)) ?_
    refine GW.take (v := .pointer (some ⟨g, 0, none⟩)) (i := 7) (l' := #[true, true, true, true, true, true, true, true, false, false, false, false, false, false, false, false, false, false, false, false, false, false, false, false, false, false, false, false, false, false, false, false, false, false, false, false, false, false, false, false, false, false, false, false, false, false, false]) (rs := []) rfl (by kernel_rfl) rfl (NoP.then (NoP.then (NoP.block (NoP.then (NoP.then (NoP.block (NoP.then NoP.base))))))) (by kernel_rfl) (by kernel_rfl) (by kernel_rfl) (by kernel_rfl) (fun _ _ => Yl.kern rfl rfl (fun _ => by kernel_rfl)) ?_
    refine GW.take (v := .slice A2 (List.length (keys ls)) c3) (i := 8) (l' := #[true, true, true, true, true, true, true, true, true, false, false, false, false, false, false, false, false, false, false, false, false, false, false, false, false, false, false, false, false, false, false, false, false, false, false, false, false, false, false, false, false, false, false, false, false, false, false]) (rs := []) rfl (by kernel_rfl) rfl (NoP.then (NoP.then (NoP.block (NoP.then (NoP.then (NoP.block (NoP.then NoP.base))))))) (by kernel_rfl) (by kernel_rfl) (by kernel_rfl) (by kernel_rfl) (fun _ ⟨_, H9⟩ => Yl.load rfl (Lds.one Try.isAgg27 (Cls.of (H9.cls (i := 1) rfl) rfl))) ?_
    refine GW.take (v := .int .i64 ((k : Nat) : Int)) (i := 9) (l' := #[true, true, true, true, true, true, true, true, true, true, false, false, false, false, false, false, false, false, false, false, false, false, false, false, false, false, false, false, false, false, false, false, false, false, false, false, false, false, false, false, false, false, false, false, false, false, false]) (rs := []) rfl (by kernel_rfl) rfl (NoP.then (NoP.then (NoP.block (NoP.then (NoP.then (NoP.block (NoP.then NoP.base))))))) (by kernel_rfl) (by kernel_rfl) (by kernel_rfl) (by kernel_rfl) (fun _ _ => Yl.move rfl) ?_
    refine GW.take (v := .pointer (some ⟨ab A2, ao A2 + k * 3, none⟩)) (i := 10) (l' := #[true, true, true, true, true, true, true, true, true, true, true, false, false, false, false, false, false, false, false, false, false, false, false, false, false, false, false, false, false, false, false, false, false, false, false, false, false, false, false, false, false, false, false, false, false, false, false]) (rs := []) rfl (by kernel_rfl) rfl (NoP.then (NoP.then (NoP.block (NoP.then (NoP.then (NoP.block (NoP.then NoP.base))))))) (by kernel_rfl) (by kernel_rfl) (by kernel_rfl) (by kernel_rfl) (fun _ ⟨_, H9⟩ => Yl.indexAddr (El27) rfl rfl ((H9.rds (i := 2) rfl).addr (i := k) (by omega)) (by omega)) ?_
    refine GW.take (v := .pointer (some ⟨ab A2, ao A2 + k * 3, none⟩)) (i := 11) (l' := #[true, true, true, true, true, true, true, true, true, true, true, true, false, false, false, false, false, false, false, false, false, false, false, false, false, false, false, false, false, false, false, false, false, false, false, false, false, false, false, false, false, false, false, false, false, false, false]) (rs := []) rfl (by kernel_rfl) rfl (NoP.then (NoP.then (NoP.block (NoP.then (NoP.then (NoP.block (NoP.then NoP.base))))))) (by kernel_rfl) (by kernel_rfl) (by kernel_rfl) (by kernel_rfl) (fun _ _ => Yl.kern rfl rfl (fun _ => by kernel_rfl)) ?_
    refine GW.take (v := .int .i64 x36.fr) (i := 12) (l' := #[true, true, true, true, true, true, true, true, true, true, true, true, true, false, false, false, false, false, false, false, false, false, false, false, false, false, false, false, false, false, false, false, false, false, false, false, false, false, false, false, false, false, false, false, false, false, false]) (rs := []) rfl (by kernel_rfl) rfl (NoP.then (NoP.then (NoP.block (NoP.then (NoP.then (NoP.block (NoP.then NoP.base))))))) (by kernel_rfl) (by kernel_rfl) (by kernel_rfl) (by kernel_rfl) (fun _ ⟨_, H9⟩ => Yl.load rfl (Lds.one Try.isAgg3 (((H9.rds (i := 2) rfl).elem kC_len yx36 (by decide)).at_ (k := 0) rfl))) ?_
    refine GW.take (v := .bool false) (i := 13) (l' := #[true, true, true, true, true, true, true, true, true, true, true, true, true, true, false, false, false, false, false, false, false, false, false, false, false, false, false, false, false, false, false, false, false, false, false, false, false, false, false, false, false, false, false, false, false, false, false]) (rs := []) rfl (by kernel_rfl) rfl (NoP.then (NoP.then (NoP.block (NoP.then (NoP.then (NoP.block (NoP.then NoP.base))))))) (by kernel_rfl) (by kernel_rfl) (by kernel_rfl) (by kernel_rfl) (fun _ _ => Yl.bool (e := !(decide (x36.fr = x36.fr))) (Yl.kern rfl rfl (fun _ => by kernel_rfl)) (by simp)) ?_
    refine GW.take (v := .bool false) (i := 14) (l' := #[true, true, true, true, true, true, true, true, true, true, true, true, true, true, true, false, false, false, false, false, false, false, false, false, false, false, false, false, false, false, false, false, false, false, false, false, false, false, false, false, false, false, false, false, false, false, false]) (rs := []) rfl (by kernel_rfl) rfl (NoP.then (NoP.then (NoP.block (NoP.then (NoP.then (NoP.block (NoP.then NoP.base))))))) (by kernel_rfl) (by kernel_rfl) (by kernel_rfl) (by kernel_rfl) (fun _ _ => Yl.move rfl) ?_
    refine GW.takeG (v := .slice A13 (List.length ls) (List.length ls)) (i := 15) (l' := #[true, true, true, true, true, true, true, true, true, true, true, true, true, true, true, true, false, false, false, false, false, false, false, false, false, false, false, false, false, false, false, false, false, false, false, false, false, false, false, false, false, false, false, false, false, false, false]) (rs := []) rfl rfl rfl rfl (by kernel_rfl) rfl (NoP.then (NoP.then (NoP.block (NoP.then (NoP.then (NoP.block (NoP.then NoP.base))))))) (by kernel_rfl) (by kernel_rfl) (by kernel_rfl) (by kernel_rfl) (fun _ _ => Yl.move rfl) ?_
    refine GW.takeG (v := .int .i64 ((k : Nat) : Int)) (i := 16) (l' := #[true, true, true, true, true, true, true, true, true, true, true, true, true, true, true, true, true, false, false, false, false, false, false, false, false, false, false, false, false, false, false, false, false, false, false, false, false, false, false, false, false, false, false, false, false, false, false]) (rs := []) rfl rfl rfl rfl (by kernel_rfl) rfl (NoP.then (NoP.then (NoP.block (NoP.then (NoP.then (NoP.block (NoP.then NoP.base))))))) (by kernel_rfl) (by kernel_rfl) (by kernel_rfl) (by kernel_rfl) (fun _ _ => Yl.move rfl) ?_
    refine GW.takeG (v := .pointer (some ⟨ab A13, ao A13 + k * 3, none⟩)) (i := 17) (l' := #[true, true, true, true, true, true, true, true, true, true, true, true, true, true, true, true, true, true, false, false, false, false, false, false, false, false, false, false, false, false, false, false, false, false, false, false, false, false, false, false, false, false, false, false, false, false, false]) (rs := []) rfl rfl rfl rfl (by kernel_rfl) rfl (NoP.then (NoP.then (NoP.block (NoP.then (NoP.then (NoP.block (NoP.then NoP.base))))))) (by kernel_rfl) (by kernel_rfl) (by kernel_rfl) (by kernel_rfl) (fun _ ⟨_, H9⟩ => Yl.indexAddr (El52) rfl rfl ((H9.rds (i := 3) rfl).addr (i := k) (by omega)) (by omega)) ?_
    refine GW.takeG (v := .pointer (some ⟨ab A13, ao A13 + k * 3 + 1, none⟩)) (i := 18) (l' := #[true, true, true, true, true, true, true, true, true, true, true, true, true, true, true, true, true, true, true, false, false, false, false, false, false, false, false, false, false, false, false, false, false, false, false, false, false, false, false, false, false, false, false, false, false, false, false]) (rs := []) rfl rfl rfl rfl (by kernel_rfl) rfl (NoP.then (NoP.then (NoP.block (NoP.then (NoP.then (NoP.block (NoP.then NoP.base))))))) (by kernel_rfl) (by kernel_rfl) (by kernel_rfl) (by kernel_rfl) (fun _ _ => Yl.kern rfl rfl (fun _ => by kernel_rfl)) ?_
    refine GW.takeG (v := .int .i64 x36.to) (i := 19) (l' := #[true, true, true, true, true, true, true, true, true, true, true, true, true, true, true, true, true, true, true, true, false, false, false, false, false, false, false, false, false, false, false, false, false, false, false, false, false, false, false, false, false, false, false, false, false, false, false]) (rs := []) rfl rfl rfl rfl (by kernel_rfl) rfl (NoP.then (NoP.then (NoP.block (NoP.then (NoP.then (NoP.block (NoP.then NoP.base))))))) (by kernel_rfl) (by kernel_rfl) (by kernel_rfl) (by kernel_rfl) (fun _ ⟨_, H9⟩ => Yl.load rfl (Lds.one Try.isAgg3 (((H9.rds (i := 3) rfl).elem Lt.len hx36 (by decide)).at_ (k := 1) rfl))) ?_
    refine GW.takeG (v := .pointer (some ⟨g, 0, none⟩)) (i := 20) (l' := #[true, true, true, true, true, true, true, true, true, true, true, true, true, true, true, true, true, true, true, true, true, false, false, false, false, false, false, false, false, false, false, false, false, false, false, false, false, false, false, false, false, false, false, false, false, false, false]) (rs := []) rfl rfl rfl rfl (by kernel_rfl) rfl (NoP.then (NoP.then (NoP.block (NoP.then (NoP.then (NoP.block (NoP.then NoP.base))))))) (by kernel_rfl) (by kernel_rfl) (by kernel_rfl) (by kernel_rfl) (fun _ _ => Yl.move rfl) ?_
    refine GW.takeG (v := .pointer (some ⟨g, 0, none⟩)) (i := 21) (l' := #[true, true, true, true, true, true, true, true, true, true, true, true, true, true, true, true, true, true, true, true, true, true, false, false, false, false, false, false, false, false, false, false, false, false, false, false, false, false, false, false, false, false, false, false, false, false, false]) (rs := []) rfl rfl rfl rfl (by kernel_rfl) rfl (NoP.then (NoP.then (NoP.block (NoP.then (NoP.then (NoP.block (NoP.then NoP.base))))))) (by kernel_rfl) (by kernel_rfl) (by kernel_rfl) (by kernel_rfl) (fun _ _ => Yl.kern rfl rfl (fun _ => by kernel_rfl)) ?_
    refine GW.takeG (v := .pointer (some ⟨g, 0, none⟩)) (i := 22) (l' := #[true, true, true, true, true, true, true, true, true, true, true, true, true, true, true, true, true, true, true, true, true, true, true, false, false, false, false, false, false, false, false, false, false, false, false, false, false, false, false, false, false, false, false, false, false, false, false]) (rs := []) rfl rfl rfl rfl (by kernel_rfl) rfl (NoP.then (NoP.then (NoP.block (NoP.then (NoP.then (NoP.block (NoP.then NoP.base))))))) (by kernel_rfl) (by kernel_rfl) (by kernel_rfl) (by kernel_rfl) (fun _ _ => Yl.kern rfl rfl (fun _ => by kernel_rfl)) ?_
    refine GW.takeG (v := .slice A2 (List.length (keys ls)) c3) (i := 23) (l' := #[true, true, true, true, true, true, true, true, true, true, true, true, true, true, true, true, true, true, true, true, true, true, true, true, false, false, false, false, false, false, false, false, false, false, false, false, false, false, false, false, false, false, false, false, false, false, false]) (rs := []) rfl rfl rfl rfl (by kernel_rfl) rfl (NoP.then (NoP.then (NoP.block (NoP.then (NoP.then (NoP.block (NoP.then NoP.base))))))) (by kernel_rfl) (by kernel_rfl) (by kernel_rfl) (by kernel_rfl) (fun _ ⟨_, H9⟩ => Yl.load rfl (Lds.one Try.isAgg27 (Cls.of (H9.cls (i := 1) rfl) rfl))) ?_
    refine GW.takeG (v := .int .i64 ((k : Nat) : Int)) (i := 24) (l' := #[true, true, true, true, true, true, true, true, true, true, true, true, true, true, true, true, true, true, true, true, true, true, true, true, true, false, false, false, false, false, false, false, false, false, false, false, false, false, false, false, false, false, false, false, false, false, false]) (rs := []) rfl rfl rfl rfl (by kernel_rfl) rfl (NoP.then (NoP.then (NoP.block (NoP.then (NoP.then (NoP.block (NoP.then NoP.base))))))) (by kernel_rfl) (by kernel_rfl) (by kernel_rfl) (by kernel_rfl) (fun _ _ => Yl.move rfl) ?_
    refine GW.takeG (v := .pointer (some ⟨ab A2, ao A2 + k * 3, none⟩)) (i := 25) (l' := #[true, true, true, true, true, true, true, true, true, true, true, true, true, true, true, true, true, true, true, true, true, true, true, true, true, true, false, false, false, false, false, false, false, false, false, false, false, false, false, false, false, false, false, false, false, false, false]) (rs := []) rfl rfl rfl rfl (by kernel_rfl) rfl (NoP.then (NoP.then (NoP.block (NoP.then (NoP.then (NoP.block (NoP.then NoP.base))))))) (by kernel_rfl) (by kernel_rfl) (by kernel_rfl) (by kernel_rfl) (fun _ ⟨_, H9⟩ => Yl.indexAddr (El27) rfl rfl ((H9.rds (i := 2) rfl).addr (i := k) (by omega)) (by omega)) ?_
    refine GW.takeG (v := .pointer (some ⟨ab A2, ao A2 + k * 3 + 1, none⟩)) (i := 26) (l' := #[true, true, true, true, true, true, true, true, true, true, true, true, true, true, true, true, true, true, true, true, true, true, true, true, true, true, true, false, false, false, false, false, false, false, false, false, false, false, false, false, false, false, false, false, false, false, false]) (rs := []) rfl rfl rfl rfl (by kernel_rfl) rfl (NoP.then (NoP.then (NoP.block (NoP.then (NoP.then (NoP.block (NoP.then NoP.base))))))) (by kernel_rfl) (by kernel_rfl) (by kernel_rfl) (by kernel_rfl) (fun _ _ => Yl.kern rfl rfl (fun _ => by kernel_rfl)) ?_
    refine GW.takeG (v := .int .i64 x36.to) (i := 27) (l' := #[true, true, true, true, true, true, true, true, true, true, true, true, true, true, true, true, true, true, true, true, true, true, true, true, true, true, true, true, false, false, false, false, false, false, false, false, false, false, false, false, false, false, false, false, false, false, false]) (rs := []) rfl rfl rfl rfl (by kernel_rfl) rfl (NoP.then (NoP.then (NoP.block (NoP.then (NoP.then (NoP.block (NoP.then NoP.base))))))) (by kernel_rfl) (by kernel_rfl) (by kernel_rfl) (by kernel_rfl) (fun _ ⟨_, H9⟩ => Yl.load rfl (Lds.one Try.isAgg3 (((H9.rds (i := 2) rfl).elem kC_len yx36 (by decide)).at_ (k := 1) rfl))) ?_
    refine GW.takeG (v := .bool false) (i := 28) (l' := #[true, true, true, true, true, true, true, true, true, true, true, true, true, true, true, true, true, true, true, true, true, true, true, true, true, true, true, true, true, false, false, false, false, false, false, false, false, false, false, false, false, false, false, false, false, false, false]) (rs := []) rfl rfl rfl rfl (by kernel_rfl) rfl (NoP.then (NoP.then (NoP.block (NoP.then (NoP.then (NoP.block (NoP.then NoP.base))))))) (by kernel_rfl) (by kernel_rfl) (by kernel_rfl) (by kernel_rfl) (fun _ _ => Yl.bool (e := !(decide (x36.to = x36.to))) (Yl.kern rfl rfl (fun _ => by kernel_rfl)) (by simp)) ?_
    refine GW.take (v := .bool false) (i := 29) (l' := #[true, true, true, true, true, true, true, true, true, true, true, true, true, true, true, true, true, true, true, true, true, true, true, true, true, true, true, true, true, true, false, false, false, false, false, false, false, false, false, false, false, false, false, false, false, false, false]) (rs := []) rfl (by kernel_rfl) rfl (NoP.then (NoP.then (NoP.block (NoP.then (NoP.then (NoP.block (NoP.then NoP.base))))))) (by kernel_rfl) (by kernel_rfl) (by kernel_rfl) (by kernel_rfl) (fun _ _ => Yl.pickF rfl rfl rfl) ?_
    refine GW.take (v := .bool false) (i := 30) (l' := #[true, true, true, true, true, true, true, true, true, true, true, true, true, true, true, true, true, true, true, true, true, true, true, true, true, true, true, true, true, true, true, false, false, false, false, false, false, false, false, false, false, false, false, false, false, false, false]) (rs := []) rfl (by kernel_rfl) rfl (NoP.then (NoP.then (NoP.block (NoP.then (NoP.then (NoP.block (NoP.then NoP.base))))))) (by kernel_rfl) (by kernel_rfl) (by kernel_rfl) (by kernel_rfl) (fun _ _ => Yl.move rfl) ?_
    refine GW.takeG (v := .slice A13 (List.length ls) (List.length ls)) (i := 31) (l' := #[true, true, true, true, true, true, true, true, true, true, true, true, true, true, true, true, true, true, true, true, true, true, true, true, true, true, true, true, true, true, true, true, false, false, false, false, false, false, false, false, false, false, false, false, false, false, false]) (rs := []) rfl rfl rfl rfl (by kernel_rfl) rfl (NoP.then (NoP.then (NoP.block (NoP.then (NoP.then (NoP.block (NoP.then NoP.base))))))) (by kernel_rfl) (by kernel_rfl) (by kernel_rfl) (by kernel_rfl) (fun _ _ => Yl.move rfl) ?_
    refine GW.takeG (v := .int .i64 ((k : Nat) : Int)) (i := 32) (l' := #[true, true, true, true, true, true, true, true, true, true, true, true, true, true, true, true, true, true, true, true, true, true, true, true, true, true, true, true, true, true, true, true, true, false, false, false, false, false, false, false, false, false, false, false, false, false, false]) (rs := []) rfl rfl rfl rfl (by kernel_rfl) rfl (NoP.then (NoP.then (NoP.block (NoP.then (NoP.then (NoP.block (NoP.then NoP.base))))))) (by kernel_rfl) (by kernel_rfl) (by kernel_rfl) (by kernel_rfl) (fun _ _ => Yl.move rfl) ?_
    refine GW.takeG (v := .pointer (some ⟨ab A13, ao A13 + k * 3, none⟩)) (i := 33) (l' := #[true, true, true, true, true, true, true, true, true, true, true, true, true, true, true, true, true, true, true, true, true, true, true, true, true, true, true, true, true, true, true, true, true, true, false, false, false, false, false, false, false, false, false, false, false, false, false]) (rs := []) rfl rfl rfl rfl (by kernel_rfl) rfl (NoP.then (NoP.then (NoP.block (NoP.then (NoP.then (NoP.block (NoP.then NoP.base))))))) (by kernel_rfl) (by kernel_rfl) (by kernel_rfl) (by kernel_rfl) (fun _ ⟨_, H9⟩ => Yl.indexAddr (El52) rfl rfl ((H9.rds (i := 3) rfl).addr (i := k) (by omega)) (by omega)) ?_
    refine GW.takeG (v := .pointer (some ⟨ab A13, ao A13 + k * 3 + 2, none⟩)) (i := 34) (l' := #[true, true, true, true, true, true, true, true, true, true, true, true, true, true, true, true, true, true, true, true, true, true, true, true, true, true, true, true, true, true, true, true, true, true, true, false, false, false, false, false, false, false, false, false, false, false, false]) (rs := []) rfl rfl rfl rfl (by kernel_rfl) rfl (NoP.then (NoP.then (NoP.block (NoP.then (NoP.then (NoP.block (NoP.then NoP.base))))))) (by kernel_rfl) (by kernel_rfl) (by kernel_rfl) (by kernel_rfl) (fun _ _ => Yl.kern rfl rfl (fun _ => by kernel_rfl)) ?_
    refine GW.takeG (v := .slice x36.A (List.length x36.bs) x36.c) (i := 35) (l' := #[true, true, true, true, true, true, true, true, true, true, true, true, true, true, true, true, true, true, true, true, true, true, true, true, true, true, true, true, true, true, true, true, true, true, true, true, false, false, false, false, false, false, false, false, false, false, false]) (rs := []) rfl rfl rfl rfl (by kernel_rfl) rfl (NoP.then (NoP.then (NoP.block (NoP.then (NoP.then (NoP.block (NoP.then NoP.base))))))) (by kernel_rfl) (by kernel_rfl) (by kernel_rfl) (by kernel_rfl) (fun _ ⟨_, H9⟩ => Yl.load rfl (Lds.one Try.isAgg32 (((H9.rds (i := 3) rfl).elem Lt.len hx36 (by decide)).at_ (k := 2) rfl))) ?_
    refine GW.takeG (v := .string ⟨List.toArray x36.bs⟩) (i := 36) (l' := #[true, true, true, true, true, true, true, true, true, true, true, true, true, true, true, true, true, true, true, true, true, true, true, true, true, true, true, true, true, true, true, true, true, true, true, true, true, false, false, false, false, false, false, false, false, false, false]) (rs := []) rfl rfl rfl rfl (by kernel_rfl) rfl (NoP.then (NoP.then (NoP.block (NoP.then (NoP.then (NoP.block (NoP.then NoP.base))))))) (by kernel_rfl) (by kernel_rfl) (by kernel_rfl) (by kernel_rfl) (fun _ ⟨_, H9⟩ => Yl.toStringE (l := x36.bs) Try.underlying32 Try.underlying5 Try.underlying9 (own_rd H9 (i := 4) rfl (Lt.rd (ls := List.drop k ds14) (i := 0) zx36)) rfl) ?_
    refine GW.takeG (v := .pointer (some ⟨g, 0, none⟩)) (i := 37) (l' := #[true, true, true, true, true, true, true, true, true, true, true, true, true, true, true, true, true, true, true, true, true, true, true, true, true, true, true, true, true, true, true, true, true, true, true, true, true, true, false, false, false, false, false, false, false, false, false]) (rs := []) rfl rfl rfl rfl (by kernel_rfl) rfl (NoP.then (NoP.then (NoP.block (NoP.then (NoP.then (NoP.block (NoP.then NoP.base))))))) (by kernel_rfl) (by kernel_rfl) (by kernel_rfl) (by kernel_rfl) (fun _ _ => Yl.move rfl) ?_
    refine GW.takeG (v := .pointer (some ⟨g, 0, none⟩)) (i := 38) (l' := #[true, true, true, true, true, true, true, true, true, true, true, true, true, true, true, true, true, true, true, true, true, true, true, true, true, true, true, true, true, true, true, true, true, true, true, true, true, true, true, false, false, false, false, false, false, false, false]) (rs := []) rfl rfl rfl rfl (by kernel_rfl) rfl (NoP.then (NoP.then (NoP.block (NoP.then (NoP.then (NoP.block (NoP.then NoP.base))))))) (by kernel_rfl) (by kernel_rfl) (by kernel_rfl) (by kernel_rfl) (fun _ _ => Yl.kern rfl rfl (fun _ => by kernel_rfl)) ?_
    refine GW.takeG (v := .pointer (some ⟨g, 0, none⟩)) (i := 39) (l' := #[true, true, true, true, true, true, true, true, true, true, true, true, true, true, true, true, true, true, true, true, true, true, true, true, true, true, true, true, true, true, true, true, true, true, true, true, true, true, true, true, false, false, false, false, false, false, false]) (rs := []) rfl rfl rfl rfl (by kernel_rfl) rfl (NoP.then (NoP.then (NoP.block (NoP.then (NoP.then (NoP.block (NoP.then NoP.base))))))) (by kernel_rfl) (by kernel_rfl) (by kernel_rfl) (by kernel_rfl) (fun _ _ => Yl.kern rfl rfl (fun _ => by kernel_rfl)) ?_
    refine GW.takeG (v := .slice A2 (List.length (keys ls)) c3) (i := 40) (l' := #[true, true, true, true, true, true, true, true, true, true, true, true, true, true, true, true, true, true, true, true, true, true, true, true, true, true, true, true, true, true, true, true, true, true, true, true, true, true, true, true, true, false, false, false, false, false, false]) (rs := []) rfl rfl rfl rfl (by kernel_rfl) rfl (NoP.then (NoP.then (NoP.block (NoP.then (NoP.then (NoP.block (NoP.then NoP.base))))))) (by kernel_rfl) (by kernel_rfl) (by kernel_rfl) (by kernel_rfl) (fun _ ⟨_, H9⟩ => Yl.load rfl (Lds.one Try.isAgg27 (Cls.of (H9.cls (i := 1) rfl) rfl))) ?_
    refine GW.takeG (v := .int .i64 ((k : Nat) : Int)) (i := 41) (l' := #[true, true, true, true, true, true, true, true, true, true, true, true, true, true, true, true, true, true, true, true, true, true, true, true, true, true, true, true, true, true, true, true, true, true, true, true, true, true, true, true, true, true, false, false, false, false, false]) (rs := []) rfl rfl rfl rfl (by kernel_rfl) rfl (NoP.then (NoP.then (NoP.block (NoP.then (NoP.then (NoP.block (NoP.then NoP.base))))))) (by kernel_rfl) (by kernel_rfl) (by kernel_rfl) (by kernel_rfl) (fun _ _ => Yl.move rfl) ?_
    refine GW.takeG (v := .pointer (some ⟨ab A2, ao A2 + k * 3, none⟩)) (i := 42) (l' := #[true, true, true, true, true, true, true, true, true, true, true, true, true, true, true, true, true, true, true, true, true, true, true, true, true, true, true, true, true, true, true, true, true, true, true, true, true, true, true, true, true, true, true, false, false, false, false]) (rs := []) rfl rfl rfl rfl (by kernel_rfl) rfl (NoP.then (NoP.then (NoP.block (NoP.then (NoP.then (NoP.block (NoP.then NoP.base))))))) (by kernel_rfl) (by kernel_rfl) (by kernel_rfl) (by kernel_rfl) (fun _ ⟨_, H9⟩ => Yl.indexAddr (El27) rfl rfl ((H9.rds (i := 2) rfl).addr (i := k) (by omega)) (by omega)) ?_
    refine GW.takeG (v := .pointer (some ⟨ab A2, ao A2 + k * 3 + 2, none⟩)) (i := 43) (l' := #[true, true, true, true, true, true, true, true, true, true, true, true, true, true, true, true, true, true, true, true, true, true, true, true, true, true, true, true, true, true, true, true, true, true, true, true, true, true, true, true, true, true, true, true, false, false, false]) (rs := []) rfl rfl rfl rfl (by kernel_rfl) rfl (NoP.then (NoP.then (NoP.block (NoP.then (NoP.then (NoP.block (NoP.then NoP.base))))))) (by kernel_rfl) (by kernel_rfl) (by kernel_rfl) (by kernel_rfl) (fun _ _ => Yl.kern rfl rfl (fun _ => by kernel_rfl)) ?_
    refine GW.takeG (v := .string ⟨List.toArray x36.bs⟩) (i := 44) (l' := #[true, true, true, true, true, true, true, true, true, true, true, true, true, true, true, true, true, true, true, true, true, true, true, true, true, true, true, true, true, true, true, true, true, true, true, true, true, true, true, true, true, true, true, true, true, false, false]) (rs := []) rfl rfl rfl rfl (by kernel_rfl) rfl (NoP.then (NoP.then (NoP.block (NoP.then (NoP.then (NoP.block (NoP.then NoP.base))))))) (by kernel_rfl) (by kernel_rfl) (by kernel_rfl) (by kernel_rfl) (fun _ ⟨_, H9⟩ => Yl.load rfl (Lds.one Try.isAgg9 (((H9.rds (i := 2) rfl).elem kC_len yx36 (by decide)).at_ (k := 2) rfl))) ?_
    refine GW.takeG (v := .bool false) (i := 45) (l' := #[true, true, true, true, true, true, true, true, true, true, true, true, true, true, true, true, true, true, true, true, true, true, true, true, true, true, true, true, true, true, true, true, true, true, true, true, true, true, true, true, true, true, true, true, true, true, false]) (rs := []) rfl rfl rfl rfl (by kernel_rfl) rfl (NoP.then (NoP.then (NoP.block (NoP.then (NoP.then (NoP.block (NoP.then NoP.base))))))) (by kernel_rfl) (by kernel_rfl) (by kernel_rfl) (by kernel_rfl) (fun _ _ => Yl.bool (e := decide (x36.bs ≠ x36.bs)) (Yl.strNe rfl rfl) (by simp)) ?_
    refine GW.take (v := .bool false) (i := 46) (l' := #[true, true, true, true, true, true, true, true, true, true, true, true, true, true, true, true, true, true, true, true, true, true, true, true, true, true, true, true, true, true, true, true, true, true, true, true, true, true, true, true, true, true, true, true, true, true, true]) (rs := []) rfl (by kernel_rfl) rfl (NoP.then (NoP.then (NoP.block (NoP.then (NoP.then (NoP.block (NoP.then NoP.base))))))) (by kernel_rfl) (by kernel_rfl) (by kernel_rfl) (by kernel_rfl) (fun _ _ => Yl.pickF rfl rfl rfl) ?_
    refine GW.done (by kernel_rfl) ?_
    refine Fin.then ?_
    refine Wp.cond0 rfl rfl ?_
    refine Wp.skip ?_
    refine Fin.then ?_
    refine Wp.seq ?_
    refine Wp.seq ?_
    refine Wp.region ?_
    have H40 : Own w D w37 [sepL (List.map Lt.own (List.drop k ds14)), net h ls, blk g [.slice A2 (List.length (keys ls)) c3] 29, row A2 (List.length (keys ls)) c3 (List.flatMap kC (keys ls)) 41 3, row A13 (List.length ls) (List.length ls) (List.flatMap Lt.cells ds2) 37 3] := H38.pick [4, 0, 1, 2, 3] (by decide) rfl
    rw [dx36] at H40
    have H41 : Own w D w37 [row x36.A (List.length x36.bs) x36.c (List.flatMap eB x36.bs) 5 1, sepL (List.map Lt.own (List.drop (k + 1) ds14)), net h ls, blk g [.slice A2 (List.length (keys ls)) c3] 29, row A2 (List.length (keys ls)) c3 (List.flatMap kC (keys ls)) 41 3, row A13 (List.length ls) (List.length ls) (List.flatMap Lt.cells ds2) 37 3] := H40.sepAt (i := 0) (R := Lt.own x36) rfl
    refine WL.val (v := .slice A13 (List.length ls) (List.length ls)) rfl (Yl.move rfl) ?_
    refine WL.val (v := .int .i64 ((k : Nat) : Int)) rfl (Yl.move rfl) ?_
    refine WL.val (v := .pointer (some ⟨ab A13, ao A13 + k * 3, none⟩)) rfl (Yl.indexAddr (El52) rfl rfl ((H41.rds (i := 5) rfl).addr (i := k) (by omega)) (by omega)) ?_
    refine WL.val (v := .pointer (some ⟨ab A13, ao A13 + k * 3 + 2, none⟩)) rfl (Yl.kern rfl rfl (fun _ => by kernel_rfl)) ?_
    refine WL.val (v := .slice x36.A (List.length x36.bs) x36.c) rfl (Yl.load rfl (Lds.one Try.isAgg32 (((H41.rds (i := 5) rfl).elem Lt.len hx36 (by decide)).at_ (k := 2) rfl))) ?_
    refine WL.val (v := .int .i64 ((List.length x36.bs : Nat) : Int)) rfl (Yl.kern rfl rfl (fun _ => by kernel_rfl)) ?_
    refine WL.val (v := .int .i64 0) rfl (Yl.move rfl) ?_
    refine WL.nil ?_
    refine Fin.then ?_
    refine Wp.block ?_
    refine Wp.loop (ι := Nat × (List UInt8)) (fun i => [(86, .int .i64 ((i.1 : Nat) : Int)), (85, .int .i64 ((List.length x36.bs : Nat) : Int)), (84, .slice x36.A (List.length x36.bs) x36.c), (83, .pointer (some ⟨ab A13, ao A13 + k * 3 + 2, none⟩)), (82, .pointer (some ⟨ab A13, ao A13 + k * 3, none⟩)), (81, .int .i64 ((k : Nat) : Int)), (80, .slice A13 (List.length ls) (List.length ls)), (79, .bool false), (78, .bool false), (77, .string ⟨List.toArray x36.bs⟩), (76, .pointer (some ⟨ab A2, ao A2 + k * 3 + 2, none⟩)), (75, .pointer (some ⟨ab A2, ao A2 + k * 3, none⟩)), (74, .int .i64 ((k : Nat) : Int)), (73, .slice A2 (List.length (keys ls)) c3), (72, .pointer (some ⟨g, 0, none⟩)), (71, .pointer (some ⟨g, 0, none⟩)), (70, .pointer (some ⟨g, 0, none⟩)), (69, .string ⟨List.toArray x36.bs⟩), (68, .slice x36.A (List.length x36.bs) x36.c), (67, .pointer (some ⟨ab A13, ao A13 + k * 3 + 2, none⟩)), (66, .pointer (some ⟨ab A13, ao A13 + k * 3, none⟩)), (65, .int .i64 ((k : Nat) : Int)), (64, .slice A13 (List.length ls) (List.length ls)), (63, .bool false), (62, .bool false), (61, .bool false), (60, .int .i64 x36.to), (59, .pointer (some ⟨ab A2, ao A2 + k * 3 + 1, none⟩)), (58, .pointer (some ⟨ab A2, ao A2 + k * 3, none⟩)), (57, .int .i64 ((k : Nat) : Int)), (56, .slice A2 (List.length (keys ls)) c3), (55, .pointer (some ⟨g, 0, none⟩)), (54, .pointer (some ⟨g, 0, none⟩)), (53, .pointer (some ⟨g, 0, none⟩)), (52, .int .i64 x36.to), (51, .pointer (some ⟨ab A13, ao A13 + k * 3 + 1, none⟩)), (50, .pointer (some ⟨ab A13, ao A13 + k * 3, none⟩)), (49, .int .i64 ((k : Nat) : Int)), (48, .slice A13 (List.length ls) (List.length ls)), (47, .bool false), (46, .bool false), (45, .int .i64 x36.fr), (44, .pointer (some ⟨ab A2, ao A2 + k * 3, none⟩)), (43, .pointer (some ⟨ab A2, ao A2 + k * 3, none⟩)), (42, .int .i64 ((k : Nat) : Int)), (41, .slice A2 (List.length (keys ls)) c3), (40, .pointer (some ⟨g, 0, none⟩)), (39, .pointer (some ⟨g, 0, none⟩)), (38, .pointer (some ⟨g, 0, none⟩)), (37, .int .i64 x36.fr), (36, .pointer (some ⟨ab A13, ao A13 + k * 3, none⟩)), (35, .pointer (some ⟨ab A13, ao A13 + k * 3, none⟩)), (34, .int .i64 ((k : Nat) : Int)), (33, .slice A13 (List.length ls) (List.length ls)), (6, .int .i64 ((k : Nat) : Int)), (32, .int .i64 ((k : Nat) : Int)), (31, .bool (decide (((k : Nat) : Int) < ((List.length ls : Nat) : Int)))), (30, .int .i64 ((k : Nat) : Int)), (29, .int .i64 ((List.length ls : Nat) : Int)), (28, .slice A13 (List.length ls) (List.length ls)), (27, .bool (decide (¬ (((List.length ls : Nat) : Int) = ((List.length (keys ls) : Nat) : Int))))), (26, .bool (decide (¬ (((List.length ls : Nat) : Int) = ((List.length (keys ls) : Nat) : Int))))), (20, .int .i64 ((List.length ls : Nat) : Int)), (25, .int .i64 ((List.length (keys ls) : Nat) : Int)), (24, .slice A2 (List.length (keys ls)) c3), (23, .pointer (some ⟨g, 0, none⟩)), (22, .pointer (some ⟨g, 0, none⟩)), (21, .pointer (some ⟨g, 0, none⟩)), (19, .pointer (some ⟨h, 0, none⟩)), (18, .bool (decide (¬ (((List.length ls : Nat) : Int) = ((List.length (keys ls) : Nat) : Int))))), (17, .bool (decide (¬ (((List.length ls : Nat) : Int) = ((List.length (keys ls) : Nat) : Int))))), (16, .int .i64 ((List.length (keys ls) : Nat) : Int)), (15, .slice A2 (List.length (keys ls)) c3), (14, .pointer (some ⟨g, 0, none⟩)), (13, .pointer (some ⟨g, 0, none⟩)), (12, .pointer (some ⟨g, 0, none⟩)), (11, .int .i64 ((List.length ls : Nat) : Int)), (10, .slice A13 (List.length ls) (List.length ls)), (5, .slice A13 (List.length ls) (List.length ls)), (9, .slice A13 (List.length ls) (List.length ls)), (8, .pointer (some ⟨h, 0, none⟩)), (0, .pointer (some ⟨h, 0, none⟩)), (1, .pointer (some ⟨g, 0, none⟩))]) (fun (i : Nat × (List UInt8)) w' => Own w D w' [row x36.A (List.length x36.bs) x36.c (List.flatMap eB i.2) 5 1, sepL (List.map Lt.own (List.drop (k + 1) ds14)), net h ls, blk g [.slice A2 (List.length (keys ls)) c3] 29, row A2 (List.length (keys ls)) c3 (List.flatMap kC (keys ls)) 41 3, row A13 (List.length ls) (List.length ls) (List.flatMap Lt.cells ds2) 37 3] ∧ (True)) (fun i => List.length x36.bs - i.1) (0, x36.bs) ⟨rfl, rfl, rfl, rfl, rfl, rfl, rfl, rfl, rfl, rfl, rfl, rfl, rfl, rfl, rfl, rfl, rfl, rfl, rfl, rfl, rfl, rfl, rfl, rfl, rfl, rfl, rfl, rfl, rfl, rfl, rfl, rfl, rfl, rfl, rfl, rfl, rfl, rfl, rfl, rfl, rfl, rfl, rfl, rfl, rfl, rfl, rfl, rfl, rfl, rfl, rfl, rfl, rfl, rfl, rfl, rfl, rfl, rfl, rfl, rfl, rfl, rfl, rfl, rfl, rfl, rfl, rfl, rfl, rfl, rfl, rfl, rfl, rfl, rfl, rfl, rfl, rfl, rfl, rfl, rfl, rfl, rfl, rfl, trivial⟩ ⟨H41, trivial⟩ ?_
    rintro ⟨j, bs2⟩ w42 ⟨H43, hf44⟩
    show Wp _ _ _ [(86, .int .i64 ((j : Nat) : Int)), (85, .int .i64 ((List.length x36.bs : Nat) : Int)), (84, .slice x36.A (List.length x36.bs) x36.c), (83, .pointer (some ⟨ab A13, ao A13 + k * 3 + 2, none⟩)), (82, .pointer (some ⟨ab A13, ao A13 + k * 3, none⟩)), (81, .int .i64 ((k : Nat) : Int)), (80, .slice A13 (List.length ls) (List.length ls)), (79, .bool false), (78, .bool false), (77, .string ⟨List.toArray x36.bs⟩), (76, .pointer (some ⟨ab A2, ao A2 + k * 3 + 2, none⟩)), (75, .pointer (some ⟨ab A2, ao A2 + k * 3, none⟩)), (74, .int .i64 ((k : Nat) : Int)), (73, .slice A2 (List.length (keys ls)) c3), (72, .pointer (some ⟨g, 0, none⟩)), (71, .pointer (some ⟨g, 0, none⟩)), (70, .pointer (some ⟨g, 0, none⟩)), (69, .string ⟨List.toArray x36.bs⟩), (68, .slice x36.A (List.length x36.bs) x36.c), (67, .pointer (some ⟨ab A13, ao A13 + k * 3 + 2, none⟩)), (66, .pointer (some ⟨ab A13, ao A13 + k * 3, none⟩)), (65, .int .i64 ((k : Nat) : Int)), (64, .slice A13 (List.length ls) (List.length ls)), (63, .bool false), (62, .bool false), (61, .bool false), (60, .int .i64 x36.to), (59, .pointer (some ⟨ab A2, ao A2 + k * 3 + 1, none⟩)), (58, .pointer (some ⟨ab A2, ao A2 + k * 3, none⟩)), (57, .int .i64 ((k : Nat) : Int)), (56, .slice A2 (List.length (keys ls)) c3), (55, .pointer (some ⟨g, 0, none⟩)), (54, .pointer (some ⟨g, 0, none⟩)), (53, .pointer (some ⟨g, 0, none⟩)), (52, .int .i64 x36.to), (51, .pointer (some ⟨ab A13, ao A13 + k * 3 + 1, none⟩)), (50, .pointer (some ⟨ab A13, ao A13 + k * 3, none⟩)), (49, .int .i64 ((k : Nat) : Int)), (48, .slice A13 (List.length ls) (List.length ls)), (47, .bool false), (46, .bool false), (45, .int .i64 x36.fr), (44, .pointer (some ⟨ab A2, ao A2 + k * 3, none⟩)), (43, .pointer (some ⟨ab A2, ao A2 + k * 3, none⟩)), (42, .int .i64 ((k : Nat) : Int)), (41, .slice A2 (List.length (keys ls)) c3), (40, .pointer (some ⟨g, 0, none⟩)), (39, .pointer (some ⟨g, 0, none⟩)), (38, .pointer (some ⟨g, 0, none⟩)), (37, .int .i64 x36.fr), (36, .pointer (some ⟨ab A13, ao A13 + k * 3, none⟩)), (35, .pointer (some ⟨ab A13, ao A13 + k * 3, none⟩)), (34, .int .i64 ((k : Nat) : Int)), (33, .slice A13 (List.length ls) (List.length ls)), (6, .int .i64 ((k : Nat) : Int)), (32, .int .i64 ((k : Nat) : Int)), (31, .bool (decide (((k : Nat) : Int) < ((List.length ls : Nat) : Int)))), (30, .int .i64 ((k : Nat) : Int)), (29, .int .i64 ((List.length ls : Nat) : Int)), (28, .slice A13 (List.length ls) (List.length ls)), (27, .bool (decide (¬ (((List.length ls : Nat) : Int) = ((List.length (keys ls) : Nat) : Int))))), (26, .bool (decide (¬ (((List.length ls : Nat) : Int) = ((List.length (keys ls) : Nat) : Int))))), (20, .int .i64 ((List.length ls : Nat) : Int)), (25, .int .i64 ((List.length (keys ls) : Nat) : Int)), (24, .slice A2 (List.length (keys ls)) c3), (23, .pointer (some ⟨g, 0, none⟩)), (22, .pointer (some ⟨g, 0, none⟩)), (21, .pointer (some ⟨g, 0, none⟩)), (19, .pointer (some ⟨h, 0, none⟩)), (18, .bool (decide (¬ (((List.length ls : Nat) : Int) = ((List.length (keys ls) : Nat) : Int))))), (17, .bool (decide (¬ (((List.length ls : Nat) : Int) = ((List.length (keys ls) : Nat) : Int))))), (16, .int .i64 ((List.length (keys ls) : Nat) : Int)), (15, .slice A2 (List.length (keys ls)) c3), (14, .pointer (some ⟨g, 0, none⟩)), (13, .pointer (some ⟨g, 0, none⟩)), (12, .pointer (some ⟨g, 0, none⟩)), (11, .int .i64 ((List.length ls : Nat) : Int)), (10, .slice A13 (List.length ls) (List.length ls)), (5, .slice A13 (List.length ls) (List.length ls)), (9, .slice A13 (List.length ls) (List.length ls)), (8, .pointer (some ⟨h, 0, none⟩)), (0, .pointer (some ⟨h, 0, none⟩)), (1, .pointer (some ⟨g, 0, none⟩))] _ _
    replace H43 : Own w D w42 [row x36.A (List.length x36.bs) x36.c (List.flatMap eB bs2) 5 1, sepL (List.map Lt.own (List.drop (k + 1) ds14)), net h ls, blk g [.slice A2 (List.length (keys ls)) c3] 29, row A2 (List.length (keys ls)) c3 (List.flatMap kC (keys ls)) 41 3, row A13 (List.length ls) (List.length ls) (List.flatMap Lt.cells ds2) 37 3] := H43
    clear hf44
    refine Wp.seq ?_
    refine Wp.region ?_
    refine WL.val (v := .bool (decide (((j : Nat) : Int) < ((List.length x36.bs : Nat) : Int)))) rfl (Yl.kern rfl rfl (fun _ => by kernel_rfl)) ?_
    refine WL.nil ?_
    refine Fin.then ?_
    refine Wp.seq ?_
    by_cases h45 : ((j : Nat) : Int) < ((List.length x36.bs : Nat) : Int)
    · skip
      refine Wp.cond1 rfl (decide_eq_true h45) ?_
      refine Wp.skip ?_
      refine Fin.then ?_
      refine Wp.seq ?_
      refine Wp.block ?_
      refine Wp.seq ?_
      refine Wp.region ?_
      refine WL.val (v := .int .i64 ((j : Nat) : Int)) rfl (Yl.move rfl) ?_
      refine WL.val (v := .int .i64 ((j : Nat) : Int)) rfl (Yl.assign rfl) ?_
      refine WL.nil ?_
      refine Fin.then ?_
      refine Wp.region ?_
      refine WL.val (v := .slice A13 (List.length ls) (List.length ls)) rfl (Yl.move rfl) ?_
      refine WL.val (v := .int .i64 ((k : Nat) : Int)) rfl (Yl.move rfl) ?_
      refine WL.val (v := .pointer (some ⟨ab A13, ao A13 + k * 3, none⟩)) rfl (Yl.indexAddr (El52) rfl rfl ((H43.rds (i := 5) rfl).addr (i := k) (by omega)) (by omega)) ?_
      refine WL.val (v := .pointer (some ⟨ab A13, ao A13 + k * 3 + 2, none⟩)) rfl (Yl.kern rfl rfl (fun _ => by kernel_rfl)) ?_
      refine WL.val (v := .slice x36.A (List.length x36.bs) x36.c) rfl (Yl.load rfl (Lds.one Try.isAgg32 (((H43.rds (i := 5) rfl).elem Lt.len hx36 (by decide)).at_ (k := 2) rfl))) ?_
      refine WL.val (v := .int .i64 ((j : Nat) : Int)) rfl (Yl.move rfl) ?_
      obtain ⟨x46, hx47⟩ := rds_at (ls := bs2) (i := j) eB_len (by decide) (H43.rds (i := 0) rfl) (by first | omega | (simp; done) | (simp; omega))
      refine WL.val (v := .pointer (some ⟨ab x36.A, ao x36.A + j * 1, none⟩)) rfl (Yl.indexAddr (El32) rfl rfl ((H43.rds (i := 0) rfl).addr (i := j) (by omega)) (by omega)) ?_
      refine WL.val (v := .int .u8 ((x46.toNat : Nat) : Int)) rfl (Yl.load rfl (Lds.one Try.isAgg5 (((H43.rds (i := 0) rfl).elem eB_len hx47 (by decide)).at_ (k := 0) rfl))) ?_
      refine WL.val (v := .int .u8 (((x46 + (1 : UInt8)).toNat : Nat) : Int)) rfl (Yl.int (e := IntKind.u8.wrap (((x46.toNat : Nat) : Int) + 1)) (Yl.kern rfl rfl (fun _ => by kernel_rfl)) (u8_add x46 (1 : UInt8))) ?_
      refine WL.val (v := .pointer (some ⟨ab x36.A, ao x36.A + j * 1, none⟩)) rfl (Yl.indexAddr (El32) rfl rfl ((H43.rds (i := 0) rfl).addr (i := j) (by omega)) (by omega)) ?_
      refine WL.do0 (Do.storeRow (vs := [.int .u8 (((x46 + (1 : UInt8)).toNat : Nat) : Int)]) (o := j * 1 + 0) (q := ao x36.A + j * 1) H43 rfl (by omega) rfl Try.sizeOf5 rfl rfl (Nat.le_of_ble_eq_true rfl) (store_fits eB_len hx47 (Nat.le_of_ble_eq_true rfl)) (flat_set (y := (x46 + (1 : UInt8))) eB_len rfl (Nat.le_of_ble_eq_true rfl) hx47) ?_)
      intro w48 H49
      replace H49 : Own w D w48 [row x36.A (List.length x36.bs) x36.c (List.flatMap eB (List.set bs2 j (x46 + (1 : UInt8)))) 5 1, sepL (List.map Lt.own (List.drop (k + 1) ds14)), net h ls, blk g [.slice A2 (List.length (keys ls)) c3] 29, row A2 (List.length (keys ls)) c3 (List.flatMap kC (keys ls)) 41 3, row A13 (List.length ls) (List.length ls) (List.flatMap Lt.cells ds2) 37 3] := H49
      refine WL.nil ?_
      refine Fin.blockN ?_
      refine Fin.then ?_
      refine Wp.region ?_
      refine WL.val (v := .int .i64 ((j + 1 : Nat) : Int)) rfl (Yl.int (e := IntKind.i64.wrap (((j : Nat) : Int) + 1)) (Yl.kern rfl rfl (fun _ => by kernel_rfl)) (by rw [IntWalk.i64_in _ (by omega)]; omega)) ?_
      refine WL.val (v := .int .i64 ((j + 1 : Nat) : Int)) rfl (Yl.move rfl) ?_
      refine WL.nil ?_
      exact Fin.round (j + 1, List.set bs2 j (x46 + (1 : UInt8))) ⟨rfl, rfl, rfl, rfl, rfl, rfl, rfl, rfl, rfl, rfl, rfl, rfl, rfl, rfl, rfl, rfl, rfl, rfl, rfl, rfl, rfl, rfl, rfl, rfl, rfl, rfl, rfl, rfl, rfl, rfl, rfl, rfl, rfl, rfl, rfl, rfl, rfl, rfl, rfl, rfl, rfl, rfl, rfl, rfl, rfl, rfl, rfl, rfl, rfl, rfl, rfl, rfl, rfl, rfl, rfl, rfl, rfl, rfl, rfl, rfl, rfl, rfl, rfl, rfl, rfl, rfl, rfl, rfl, rfl, rfl, rfl, rfl, rfl, rfl, rfl, rfl, rfl, rfl, rfl, rfl, rfl, rfl, rfl, trivial⟩ ⟨H49, trivial⟩ (by show List.length x36.bs - (j + 1) < List.length x36.bs - j; omega)
    · skip
      refine Wp.cond0 rfl (decide_eq_false h45) ?_
      refine Wp.exit ?_
      refine Fin.thenX ?_
      refine Fin.thenX ?_
      refine Fin.blockX ?_
      refine Fin.then ?_
      refine Wp.region ?_
      refine WL.val (v := .slice A13 (List.length ls) (List.length ls)) rfl (Yl.move rfl) ?_
      refine WL.val (v := .int .i64 ((k : Nat) : Int)) rfl (Yl.move rfl) ?_
      refine WL.val (v := .pointer (some ⟨ab A13, ao A13 + k * 3, none⟩)) rfl (Yl.indexAddr (El52) rfl rfl ((H43.rds (i := 5) rfl).addr (i := k) (by omega)) (by omega)) ?_
      refine WL.val (v := .pointer (some ⟨ab A13, ao A13 + k * 3, none⟩)) rfl (Yl.kern rfl rfl (fun _ => by kernel_rfl)) ?_
      have H50 : Own w D w42 [row A13 (List.length ls) (List.length ls) (List.flatMap Lt.cells ds2) 37 3, row x36.A (List.length x36.bs) x36.c (List.flatMap eB bs2) 5 1, sepL (List.map Lt.own (List.drop (k + 1) ds14)), net h ls, blk g [.slice A2 (List.length (keys ls)) c3] 29, row A2 (List.length (keys ls)) c3 (List.flatMap kC (keys ls)) 41 3] := H43.pick [5, 0, 1, 2, 3, 4] (by decide) rfl
      refine WL.do0 (Do.storeRow (vs := [.int .i64 (-7)]) (o := k * 3 + 0) (q := ao A13 + k * 3) H50 rfl (by omega) rfl Try.sizeOf3 rfl rfl (Nat.le_of_ble_eq_true rfl) (store_fits Lt.len hx36 (Nat.le_of_ble_eq_true rfl)) (flat_set (y := ⟨(-7), x36.to, x36.A, x36.c, x36.bs⟩) Lt.len rfl (Nat.le_of_ble_eq_true rfl) hx36) ?_)
      intro w51 H52
      replace H52 : Own w D w51 [row A13 (List.length ls) (List.length ls) (List.flatMap Lt.cells (List.set ds2 k (⟨(-7), x36.to, x36.A, x36.c, x36.bs⟩))) 37 3, row x36.A (List.length x36.bs) x36.c (List.flatMap eB bs2) 5 1, sepL (List.map Lt.own (List.drop (k + 1) ds14)), net h ls, blk g [.slice A2 (List.length (keys ls)) c3] 29, row A2 (List.length (keys ls)) c3 (List.flatMap kC (keys ls)) 41 3] := H52
      refine WL.nil ?_
      refine Fin.blockN ?_
      refine Fin.then ?_
      refine Wp.region ?_
      refine WL.val (v := .int .i64 ((k + 1 : Nat) : Int)) rfl (Yl.int (e := IntKind.i64.wrap (((k : Nat) : Int) + 1)) (Yl.kern rfl rfl (fun _ => by kernel_rfl)) (by rw [IntWalk.i64_in _ (by omega)]; omega)) ?_
      refine WL.val (v := .int .i64 ((k + 1 : Nat) : Int)) rfl (Yl.move rfl) ?_
      refine WL.nil ?_
      have H53 : Own w D w51 [net h ls, blk g [.slice A2 (List.length (keys ls)) c3] 29, row A2 (List.length (keys ls)) c3 (List.flatMap kC (keys ls)) 41 3, row A13 (List.length ls) (List.length ls) (List.flatMap Lt.cells (List.set ds2 k (⟨(-7), x36.to, x36.A, x36.c, x36.bs⟩))) 37 3, sepL (List.map Lt.own (List.drop (k + 1) ds14))] := H52.pick [3, 4, 5, 0, 2] (by decide) rfl
      exact Fin.round (k + 1, List.set ds2 k (⟨(-7), x36.to, x36.A, x36.c, x36.bs⟩)) ⟨rfl, rfl, rfl, rfl, rfl, rfl, rfl, rfl, rfl, rfl, rfl, rfl, rfl, rfl, rfl, rfl, rfl, rfl, rfl, rfl, rfl, rfl, rfl, rfl, rfl, rfl, trivial⟩ ⟨H53, (show (k + 1) ≤ List.length ls ∧ ∀ q : Nat, (k + 1) ≤ q → (List.set ds2 k (⟨(-7), x36.to, x36.A, x36.c, x36.bs⟩))[q]? = ds14[q]? from ⟨by omega, fun i hi => by rw [List.getElem?_set_ne (by omega)]; exact hs i (by omega)⟩)⟩ (by show List.length ls - (k + 1) < List.length ls - k; omega)
  · skip
    refine Wp.cond0 rfl (decide_eq_false h35) ?_
    refine Wp.exit ?_
    refine Fin.thenX ?_
    refine Fin.thenX ?_
    refine Fin.blockX ?_
    refine Fin.then ?_
    refine Wp.seq ?_
    refine Wp.region ?_
    refine WL.val (v := .bool true) rfl (Yl.assign rfl) ?_
    refine WL.nil ?_
    refine Fin.then ?_
    refine Wp.ret ?_
    refine Fin.res (res1 rfl rfl) ?_
    have H54 : Own w D w32 [blk g [.slice A2 (List.length (keys ls)) c3] 29, row A2 (List.length (keys ls)) c3 (List.flatMap kC (keys ls)) 41 3, net h ls, row A13 (List.length ls) (List.length ls) (List.flatMap Lt.cells ds2) 37 3, sepL (List.map Lt.own (List.drop k ds14))] := H33.pick [1, 2, 0, 3, 4] (by decide) rfl
    have H55 : Own w D w32 [rnet g (keys ls), net h ls, row A13 (List.length ls) (List.length ls) (List.flatMap Lt.cells ds2) 37 3, sepL (List.map Lt.own (List.drop k ds14))] := rnet.fold2 (n := List.length (keys ls)) rfl H54
    have H56 : Own w D w32 [net h ls, rnet g (keys ls)] := H55.pick [1, 0] (by decide) rfl
    exact ⟨rfl, H56⟩
end Go.Proofs.Ytbflloaamnphkaa
