/-
  Numbers sorted where they stand. Conditions: none beyond each law's own.
-/
import Derived.Test.YtkekaemfokmhdaaCc
import Derived.Shelf.SortM.Plain
import Derived.Shelf.SortM.SortNone
import Derived.Ground.SlgmProg
namespace Go.Proofs
open Go.RowKit Go.Sort Go.Shelf
def Try.sortA_ren : Go.Shelf.Ren := ⟨fun | 5 => 31 | 8 => 38 | 7 => 37 | 19 => 48 | 20 => 49 | 10 => 39 | 11 => 40 | 12 => 41 | 13 => 42 | 14 => 43 | 15 => 44 | 16 => 45 | 17 => 46 | 18 => 47 | 30 => 50 | 31 => 51 | 32 => 52 | 33 => 53 | 34 => 54 | 35 => 55 | 40 => 56 | n => n, fun | 23 => 58 | 25 => 3 | 3 => 3 | 32 => 92 | 22 => 58 | 0 => 0 | 44 => 103 | 46 => 33 | 4 => 4 | 36 => 95 | 35 => 94 | 41 => 100 | 5 => 5 | 9 => 9 | 53 => 105 | 57 => 108 | 63 => 110 | 64 => 111 | n => n, fun | n => n⟩
theorem Try.sortA : Go.Proofs.SlLaysM.n5 Try.prog Try.sortA_ren := {
  mixed := by kernel_rfl
  f5 := ⟨Try.f31.name, by decide, Try.func31.trans (congrArg some (by kernel_rfl))⟩
  f7 := ⟨Try.f37.name, by decide, Try.func37.trans (congrArg some (by kernel_rfl))⟩
  f8 := Try.func38.trans (congrArg some (by kernel_rfl))
  f10 := ⟨Try.f39.name, by decide, Try.func39.trans (congrArg some (by kernel_rfl))⟩
  f11 := ⟨Try.f40.name, by decide, Try.func40.trans (congrArg some (by kernel_rfl))⟩
  f12 := ⟨Try.f41.name, by decide, Try.func41.trans (congrArg some (by kernel_rfl))⟩
  f13 := ⟨Try.f42.name, by decide, Try.func42.trans (congrArg some (by kernel_rfl))⟩
  f14 := ⟨Try.f43.name, by decide, Try.func43.trans (congrArg some (by kernel_rfl))⟩
  f15 := ⟨Try.f44.name, by decide, Try.func44.trans (congrArg some (by kernel_rfl))⟩
  f16 := ⟨Try.f45.name, by decide, Try.func45.trans (congrArg some (by kernel_rfl))⟩
  f17 := ⟨Try.f46.name, by decide, Try.func46.trans (congrArg some (by kernel_rfl))⟩
  f18 := ⟨Try.f47.name, by decide, Try.func47.trans (congrArg some (by kernel_rfl))⟩
  f19 := Try.func48.trans (congrArg some (by kernel_rfl))
  f20 := Try.func49.trans (congrArg some (by kernel_rfl))
  f30 := ⟨Try.f50.name, by decide, Try.func50.trans (congrArg some (by kernel_rfl))⟩
  f31 := Try.func51.trans (congrArg some (by kernel_rfl))
  f32 := Try.func52.trans (congrArg some (by kernel_rfl))
  f33 := ⟨Try.f53.name, by decide, Try.func53.trans (congrArg some (by kernel_rfl))⟩
  f34 := ⟨Try.f54.name, by decide, Try.func54.trans (congrArg some (by kernel_rfl))⟩
  f35 := ⟨Try.f55.name, by decide, Try.func55.trans (congrArg some (by kernel_rfl))⟩
  f40 := ⟨Try.f56.name, by decide, Try.func56.trans (congrArg some (by kernel_rfl))⟩
  t0 := Try.underlying0
  a0 := Try.isAgg0
  z0 := Try.sizeOf0
  v0 := Try.zeroValue0
  t3 := Try.underlying3
  a3 := Try.isAgg3
  z3 := Try.sizeOf3
  v3 := Try.zeroValue3
  t4 := Try.underlying4
  a4 := Try.isAgg4
  z4 := Try.sizeOf4
  v4 := Try.zeroValue4
  t5 := Try.underlying5
  a5 := Try.isAgg5
  z5 := Try.sizeOf5
  v5 := Try.zeroValue5
  t9 := Try.underlying9
  a9 := Try.isAgg9
  z9 := Try.sizeOf9
  v9 := Try.zeroValue9
  t22 := Try.underlying58
  a22 := Try.isAgg58
  z22 := Try.sizeOf58
  v22 := Try.zeroValue58
  t23 := Try.underlying58
  a23 := Try.isAgg58
  z23 := Try.sizeOf58
  v23 := Try.zeroValue58
  t25 := Try.underlying3
  a25 := Try.isAgg3
  z25 := Try.sizeOf3
  v25 := Try.zeroValue3
  t32 := Try.underlying92
  a32 := Try.isAgg92
  z32 := Try.sizeOf92
  v32 := Try.zeroValue92
  t35 := Try.underlying94
  a35 := Try.isAgg94
  z35 := Try.sizeOf94
  v35 := Try.zeroValue94
  t36 := Try.underlying95
  a36 := Try.isAgg95
  z36 := Try.sizeOf95
  v36 := Try.zeroValue95
  t41 := Try.underlying100
  a41 := Try.isAgg100
  z41 := Try.sizeOf100
  v41 := Try.zeroValue100
  t44 := Try.underlying103
  a44 := Try.isAgg103
  z44 := Try.sizeOf103
  v44 := Try.zeroValue103
  t46 := Try.underlying33
  a46 := Try.isAgg33
  z46 := Try.sizeOf33
  v46 := Try.zeroValue33
  t53 := Try.underlying105
  a53 := Try.isAgg105
  z53 := Try.sizeOf105
  v53 := Try.zeroValue105
  t57 := Try.underlying108
  a57 := Try.isAgg108
  z57 := Try.sizeOf108
  v57 := Try.zeroValue108
  t63 := Try.underlying110
  a63 := Try.isAgg110
  z63 := Try.sizeOf110
  v63 := Try.zeroValue110
  t64 := Try.underlying111
  a64 := Try.isAgg111
  z64 := Try.sizeOf111
  v64 := Try.zeroValue111 }
end Go.Proofs
namespace Go.Proofs.Ytkekaemfokmhdaa
set_option linter.unusedVariables false
set_option linter.unusedSimpArgs false
open Go.RowKit Go.Sort Go.Shelf
/-- numbers in their order -/
def srtI (l : List Int) : List Int := l.mergeSort fun x y => decide (x ≤ y)
theorem srtI_len (l : List Int) : (srtI l).length = l.length := (List.mergeSort_perm l _).length_eq
theorem flat_eI (l : List Int) : List.flatMap (eI .i64) l = l.map fun x => Value.int .i64 x := by
  induction l with
  | nil => rfl
  | cons x l ih => rw [List.flatMap_cons, ih]; rfl
theorem sort_ints (w : World) (D : Nat → Prop) (A : Option Addr) (n c : Nat) (d : List Int) (H : Own w D w [row A n c (List.flatMap (eI .i64) d) 3 1]) (hn : n = d.length) (hl : d.length ≤ 1000000) :
    Calls Try.prog 31 #[.slice A n c] w (Ret fun v w' => v = .tuple #[] ∧ Own w D w' [row A n c (List.flatMap (eI .i64) (srtI d)) 3 1]) := by
  subst hn
  obtain ⟨h, ⟨hlen, hr⟩, h2⟩ := H.get (i := 0) rfl
  rcases hr with ⟨rfl, h0, rfl⟩ | ⟨g, cur, fz, rfl, q1, q2, q3, q4, q5, q6⟩
  · have hd : d = [] := List.eq_nil_of_length_eq_zero h0
    subst hd
    refine (AnyM.slices_Sort_int_none Try.sortA none 0 w).mono ?_
    rintro e w' ⟨rfl, rfl⟩
    have e0 : srtI [] = [] := by unfold srtI; exact List.mergeSort_nil
    rw [e0]
    exact ⟨_, rfl, rfl, H⟩
  · have hg := h2 g _ q1
    rw [Nat.mul_one] at q4 q5 hlen
    rw [flat_eI] at q5 hlen
    have hle : d.length ≤ cur.size := by rw [q4]; exact q2
    have hcell : ∀ j, (hj : j < d.length) → cur[j]? = some (Value.int .i64 (d[j]'hj)) := fun j hj => by
      have e := congrArg (fun l => l[j]?) q5
      simp only [List.getElem?_take, if_pos hj, List.getElem?_map, List.getElem?_eq_getElem hj, Option.map_some] at e
      rw [← e, Array.getElem?_toList]
    have hH : Holds (Value.int .i64) w g 0 d.toArray := fun j hj => by
      have hj' : j < d.length := by simpa using hj
      refine ⟨?_, ?_⟩
      · simp only [World.cell?, hg, Nat.zero_add]
        rw [hcell j hj']
        simp [hj']
      · have hno := q6.no j (by omega)
        simp only [World.frozen?, hg, Nat.zero_add]
        simpa using hno
    refine (AnyM.slices_Sort_int Try.sortA g 0 c d w hH (size_lt hg) (by omega)).mono ?_
    rintro e w' ⟨rfl, nn, os, rfl⟩
    refine ⟨_, rfl, rfl, ?_⟩
    refine H.upd rfl rfl rfl (by simp [grow, putRow, mapBlock, ahead]) fun h1 ⟨_, r0⟩ hk => ?_
    rcases r0 with ⟨e, _⟩ | ⟨g', cur', fz', e, r1, _, _, _, r5, r6⟩
    · cases e
    · injection e with e
      injection e with e
      subst e
      have hcc := hk g _ r1
      rw [hg] at hcc
      injection hcc with hcc
      injection hcc with e1 _ e3
      subst e1 e3
      have hsl := srtI_len d
      have hgs : g < w.heap.size := size_lt hg
      refine ⟨fun k => if k = g then some (.cells (putCells (Value.int .i64) 0 (srtI d).toArray cur) 3 fz) else none, ⟨by rw [flat_eI, List.length_map, hsl, Nat.mul_one], .inr ⟨g, putCells (Value.int .i64) 0 (srtI d).toArray cur, fz, rfl, by simp, q2, q3, by simp [putCells, q4], ?_, by simpa [putCells] using q6⟩⟩, fun k o' hk' => ?_, fun k hk1 hk2 => ?_⟩
      · rw [Nat.mul_one, flat_eI]
        apply List.ext_getElem?
        intro j
        rw [List.getElem?_take]
        by_cases hj : j < d.length
        · rw [if_pos hj, Array.getElem?_toList]
          have hj2 : j < (srtI d).length := by omega
          have hjc : j < cur.size := by omega
          simp only [putCells, Array.getElem?_mapIdx, Array.getElem?_eq_getElem hjc, Option.map_some, Nat.zero_le, true_and, Nat.zero_add, Nat.sub_zero, List.size_toArray, if_pos hj2, List.getElem?_map, List.getElem?_eq_getElem hj2]
          simp [hj2]
        · rw [if_neg hj, List.getElem?_eq_none (by rw [List.length_map, hsl]; omega)]
      · by_cases e : k = g
        · subst e
          simp only [if_true, Option.some.injEq] at hk'
          subst hk'
          refine ⟨?_, .inl (by rw [r1]; exact Option.some_ne_none _)⟩
          simp only [grow, putRow, mapBlock, ahead]
          rw [Array.getElem?_append_left (by simpa using hgs)]
          simp [Array.getElem?_modify, hg, onCells]
          rfl
        · simp only [e, if_false] at hk'; cases hk'
      · have hne : k ≠ g := fun e => by rw [e, r1] at hk2; cases hk2
        simp only [grow, putRow, mapBlock, ahead]
        rw [Array.getElem?_append_left (by simpa using hk1)]
        simp [Array.getElem?_modify, Ne.symm hne]
end Go.Proofs.Ytkekaemfokmhdaa
