/-
  Parts, each applied to its part of a map, are together the whole.
  Conditions: none beyond each law's own.
-/
import Derived.Test.YtblpdbnklopchaaBWhole
import Derived.Test.YtblpdbnklopchaaBuZ
import Derived.Test.YtblpdbnklopchaaKu
namespace Go.Proofs.Ytblpdbnklopchaa
set_option linter.unusedVariables false
set_option maxRecDepth 100000 in
theorem live_true : w12_live = true := by decide +kernel
theorem small_of {a0 : Sv PairD} {a1 : Sv EntryD} {a2 : Sv (List UInt8)} (hb : bk a0 + bk a1 + bk a2 ≤ 1048576) : List.length a0.ls ≤ 1048576 ∧ List.length a1.ls ≤ 1048576 ∧ List.length a2.ls ≤ 1048576 := by
  have h0 := Sv.bk_len (s := a0) fun y => Nat.le_trans (bk_pos_str y.xKey) (Nat.le_add_right _ _)
  have h1 := Sv.bk_len (s := a1) fun y => by
    have := bk_pos_str y.xOp.xKey
    show 1 ≤ bk y.xSeq + ((bk y.xOp.xKind + (bk y.xOp.xKey + _)) + 0)
    omega
  have h2 := Sv.bk_len (s := a2) fun y => bk_pos_str y
  omega
theorem wh_L {pv : List Key} (h : pvs pv) {m : List PairD} {l : List EntryD} (hm : op_CheckMap m = 0) (hl : buffer_Check l = 0) (r : Bool) (rs : List (Ll EntryD)) (w : List PairD) : ∀ (n k : Nat) (acc : List PairD), k + n = pv.length + 1 →
    w12_BufferWhole_L0 m pv r rs w ((List.range' k n).map fun i => Ll.mk (l.flatMap (piece pv i))) acc k = .inl (acc ++ (List.range' k n).flatMap fun i => (buffer_Apply m l).1.filter fun p => inR (prg pv i).xLo (prg pv i).xHi p.xKey)
  | 0, k, acc, _ => by
    rw [List.range'_zero, List.map_nil, List.flatMap_nil, List.append_nil, w12_BufferWhole_L0]
  | n + 1, k, acc, hk => by
    rw [List.range'_succ, List.map_cons, List.flatMap_cons, w12_BufferWhole_L0, bnd_eq, rr_eq, bnd_eq, bnd_eq]
    show (if (buffer_Apply (r04_Within m (prg pv k) (-1)) (l.flatMap (piece pv k))).2 = 0 then _ else _) = _
    rw [part_at h (by omega) hm hl, if_pos rfl, wh_L h hm hl r rs w n (k + 1) _ (by omega), List.append_assoc]
theorem T_BufferWhole (l0 : List PairD) (l1 : List EntryD) (l2 : List (List UInt8)) : w12_BufferWhole l0 l1 l2 = true := by
  unfold w12_BufferWhole
  rw [live_true]
  simp only [bnd_eq]
  by_cases hp : (buffer_Part l1 l2).2 = 0
  · by_cases ha : (buffer_Apply l0 l1).2 = 0
    · obtain ⟨hl, hv⟩ := pt_0 hp
      obtain ⟨hm, -⟩ := ap_0 ha
      have h : pvs l2 := cp_ok hv
      have hs : srt (buffer_Apply l0 l1).1 := by
        rw [ap_ok hm hl]
        exact (cm_ok.1 (run_keep hm fun o ho => by
          obtain ⟨x, hx, rfl⟩ := List.mem_map.1 ho
          exact ((bk_ok hl).1 x hx).1)).2
      rw [if_pos hp, if_pos ha, pt_ok hl hv]
      have e := wh_L h hm hl true ((List.range (l2.length + 1)).map fun i => Ll.mk (l1.flatMap (piece l2 i))) (buffer_Apply l0 l1).1 (l2.length + 1) 0 [] (by omega)
      rw [← List.range_eq_range'] at e
      rw [show w12_BufferWhole_L0 l0 l2 true ((List.range (l2.length + 1)).map fun i => Ll.mk (l1.flatMap (piece l2 i)), (0 : Int)).1 (buffer_Apply l0 l1).1 ((List.range (l2.length + 1)).map fun i => Ll.mk (l1.flatMap (piece l2 i)), (0 : Int)).1 [] 0 = _ from e]
      have e3 := parts_from h hs l2.length 0 (by omega)
      rw [← List.range_eq_range'] at e3
      rw [e3]
      have e4 : ((buffer_Apply l0 l1).1.filter fun p => decide (¬ p.xKey < (prg l2 0).xLo)) = (buffer_Apply l0 l1).1 := List.filter_eq_self.2 fun p _ => decide_eq_true (k_nil _)
      rw [e4, List.nil_append]
      show (if true = true then (if (((List.map _ (List.range (l2.length + 1))).length : Nat) : Int) = _ then r04_SameMap _ _ else false) else false) = true
      rw [if_pos rfl, if_pos (by rw [List.length_map, List.length_range]), sm_refl]
    · rw [if_pos hp, if_neg ha]
  · rw [if_neg hp]
end Go.Proofs.Ytblpdbnklopchaa
