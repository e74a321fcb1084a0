/-
  What a device's methods want of the library: a map's keys, sorted; a map's clone.
  Conditions: none beyond each law's own.
-/
import Derived.Test.YtmhhmhaigmjekaaDiM
import Derived.Test.YtmhhmhaigmjekaaDiA
import Derived.Shelf.SlIterI.Nil
import Derived.Shelf.SortM.Plain
import Derived.Shelf.SortM.SortNone
import Derived.Ground.GgzProg
import Derived.Ground.SlgmProg
import Derived.Shelf.SlMaps.Clone
import Derived.Ground.SlmcProg
namespace Go.Proofs
open Go.RowKit Go.Maps Go.Sort Go.Shelf
def Try.sortedA_ren : Go.Shelf.Ren := ⟨fun | 6 => 37 | 8 => 40 | 9 => 41 | 11 => 43 | 13 => 45 | 12 => 44 | 23 => 55 | 24 => 56 | 14 => 46 | 15 => 47 | 16 => 48 | 17 => 49 | 18 => 50 | 19 => 51 | 20 => 52 | 21 => 53 | 22 => 54 | 25 => 57 | 26 => 58 | 27 => 59 | 28 => 60 | 29 => 61 | 30 => 62 | 31 => 63 | n => n, fun | 26 => 3 | 28 => 68 | 24 => 46 | 0 => 0 | 3 => 3 | 37 => 76 | 48 => 87 | 50 => 89 | 4 => 4 | 40 => 79 | 39 => 78 | 45 => 84 | 5 => 5 | 9 => 9 | 51 => 90 | 55 => 94 | 57 => 96 | 58 => 97 | 33 => 72 | n => n, fun | n => n⟩
theorem Try.sortedA : Go.Proofs.SlLaysZI.n6 Try.prog Try.sortedA_ren := {
  mixed := by kernel_rfl
  f6 := ⟨Try.f37.name, by decide, Try.func37.trans (congrArg some (by kernel_rfl))⟩
  f8 := ⟨Try.f40.name, by decide, Try.func40.trans (congrArg some (by kernel_rfl))⟩
  f11 := ⟨Try.f43.name, by decide, Try.func43.trans (congrArg some (by kernel_rfl))⟩
  t0 := Try.underlying0
  a0 := Try.isAgg0
  z0 := Try.sizeOf0
  v0 := Try.zeroValue0
  t24 := Try.underlying46
  a24 := Try.isAgg46
  z24 := Try.sizeOf46
  v24 := Try.zeroValue46
  t26 := Try.underlying3
  a26 := Try.isAgg3
  z26 := Try.sizeOf3
  v26 := Try.zeroValue3
  t28 := Try.underlying68
  a28 := Try.isAgg68
  z28 := Try.sizeOf68
  v28 := Try.zeroValue68
  i26 := by kernel_rfl }
def Try.keysA_ren : Go.Shelf.Ren := ⟨fun | 7 => 38 | 10 => 42 | n => n, fun | 23 => 53 | 26 => 3 | 3 => 61 | 28 => 68 | 0 => 0 | 27 => 67 | 33 => 72 | 4 => 4 | n => n, fun | n => n⟩
theorem Try.keysA : Go.Proofs.SlLaysZI.n7 Try.prog Try.keysA_ren := {
  mixed := by kernel_rfl
  f7 := ⟨Try.f38.name, by decide, Try.func38.trans (congrArg some (by kernel_rfl))⟩
  f10 := ⟨Try.f42.name, by decide, Try.func42.trans (congrArg some (by kernel_rfl))⟩
  t0 := Try.underlying0
  a0 := Try.isAgg0
  z0 := Try.sizeOf0
  v0 := Try.zeroValue0
  t4 := Try.underlying4
  a4 := Try.isAgg4
  z4 := Try.sizeOf4
  v4 := Try.zeroValue4
  t23 := Try.underlying53
  a23 := Try.isAgg53
  z23 := Try.sizeOf53
  v23 := Try.zeroValue53
  t26 := Try.underlying3
  a26 := Try.isAgg3
  z26 := Try.sizeOf3
  v26 := Try.zeroValue3
  t27 := Try.underlying67
  a27 := Try.isAgg67
  z27 := Try.sizeOf67
  v27 := Try.zeroValue67
  t28 := Try.underlying68
  a28 := Try.isAgg68
  z28 := Try.sizeOf68
  v28 := Try.zeroValue68
  t33 := Try.underlying72
  a33 := Try.isAgg72
  z33 := Try.sizeOf72
  v33 := Try.zeroValue72 }
def Try.sortA_ren : Go.Shelf.Ren := ⟨fun | 5 => 41 | 8 => 45 | 7 => 44 | 19 => 55 | 20 => 56 | 10 => 46 | 11 => 47 | 12 => 48 | 13 => 49 | 14 => 50 | 15 => 51 | 16 => 52 | 17 => 53 | 18 => 54 | 30 => 57 | 31 => 58 | 32 => 59 | 33 => 60 | 34 => 61 | 35 => 62 | 40 => 63 | n => n, fun | 23 => 46 | 25 => 3 | 3 => 3 | 32 => 76 | 22 => 46 | 0 => 0 | 44 => 87 | 46 => 89 | 4 => 4 | 36 => 79 | 35 => 78 | 41 => 84 | 5 => 5 | 9 => 9 | 53 => 90 | 57 => 94 | 63 => 96 | 64 => 97 | n => n, fun | n => n⟩
theorem Try.sortA : Go.Proofs.SlLaysM.n5 Try.prog Try.sortA_ren := {
  mixed := by kernel_rfl
  f5 := ⟨Try.f41.name, by decide, Try.func41.trans (congrArg some (by kernel_rfl))⟩
  f7 := ⟨Try.f44.name, by decide, Try.func44.trans (congrArg some (by kernel_rfl))⟩
  f8 := Try.func45.trans (congrArg some (by kernel_rfl))
  f10 := ⟨Try.f46.name, by decide, Try.func46.trans (congrArg some (by kernel_rfl))⟩
  f11 := ⟨Try.f47.name, by decide, Try.func47.trans (congrArg some (by kernel_rfl))⟩
  f12 := ⟨Try.f48.name, by decide, Try.func48.trans (congrArg some (by kernel_rfl))⟩
  f13 := ⟨Try.f49.name, by decide, Try.func49.trans (congrArg some (by kernel_rfl))⟩
  f14 := ⟨Try.f50.name, by decide, Try.func50.trans (congrArg some (by kernel_rfl))⟩
  f15 := ⟨Try.f51.name, by decide, Try.func51.trans (congrArg some (by kernel_rfl))⟩
  f16 := ⟨Try.f52.name, by decide, Try.func52.trans (congrArg some (by kernel_rfl))⟩
  f17 := ⟨Try.f53.name, by decide, Try.func53.trans (congrArg some (by kernel_rfl))⟩
  f18 := ⟨Try.f54.name, by decide, Try.func54.trans (congrArg some (by kernel_rfl))⟩
  f19 := Try.func55.trans (congrArg some (by kernel_rfl))
  f20 := Try.func56.trans (congrArg some (by kernel_rfl))
  f30 := ⟨Try.f57.name, by decide, Try.func57.trans (congrArg some (by kernel_rfl))⟩
  f31 := Try.func58.trans (congrArg some (by kernel_rfl))
  f32 := Try.func59.trans (congrArg some (by kernel_rfl))
  f33 := ⟨Try.f60.name, by decide, Try.func60.trans (congrArg some (by kernel_rfl))⟩
  f34 := ⟨Try.f61.name, by decide, Try.func61.trans (congrArg some (by kernel_rfl))⟩
  f35 := ⟨Try.f62.name, by decide, Try.func62.trans (congrArg some (by kernel_rfl))⟩
  f40 := ⟨Try.f63.name, by decide, Try.func63.trans (congrArg some (by kernel_rfl))⟩
  t0 := Try.underlying0
  a0 := Try.isAgg0
  z0 := Try.sizeOf0
  v0 := Try.zeroValue0
  t3 := Try.underlying3
  a3 := Try.isAgg3
  z3 := Try.sizeOf3
  v3 := Try.zeroValue3
  t4 := Try.underlying4
  a4 := Try.isAgg4
  z4 := Try.sizeOf4
  v4 := Try.zeroValue4
  t5 := Try.underlying5
  a5 := Try.isAgg5
  z5 := Try.sizeOf5
  v5 := Try.zeroValue5
  t9 := Try.underlying9
  a9 := Try.isAgg9
  z9 := Try.sizeOf9
  v9 := Try.zeroValue9
  t22 := Try.underlying46
  a22 := Try.isAgg46
  z22 := Try.sizeOf46
  v22 := Try.zeroValue46
  t23 := Try.underlying46
  a23 := Try.isAgg46
  z23 := Try.sizeOf46
  v23 := Try.zeroValue46
  t25 := Try.underlying3
  a25 := Try.isAgg3
  z25 := Try.sizeOf3
  v25 := Try.zeroValue3
  t32 := Try.underlying76
  a32 := Try.isAgg76
  z32 := Try.sizeOf76
  v32 := Try.zeroValue76
  t35 := Try.underlying78
  a35 := Try.isAgg78
  z35 := Try.sizeOf78
  v35 := Try.zeroValue78
  t36 := Try.underlying79
  a36 := Try.isAgg79
  z36 := Try.sizeOf79
  v36 := Try.zeroValue79
  t41 := Try.underlying84
  a41 := Try.isAgg84
  z41 := Try.sizeOf84
  v41 := Try.zeroValue84
  t44 := Try.underlying87
  a44 := Try.isAgg87
  z44 := Try.sizeOf87
  v44 := Try.zeroValue87
  t46 := Try.underlying89
  a46 := Try.isAgg89
  z46 := Try.sizeOf89
  v46 := Try.zeroValue89
  t53 := Try.underlying90
  a53 := Try.isAgg90
  z53 := Try.sizeOf90
  v53 := Try.zeroValue90
  t57 := Try.underlying94
  a57 := Try.isAgg94
  z57 := Try.sizeOf94
  v57 := Try.zeroValue94
  t63 := Try.underlying96
  a63 := Try.isAgg96
  z63 := Try.sizeOf96
  v63 := Try.zeroValue96
  t64 := Try.underlying97
  a64 := Try.isAgg97
  z64 := Try.sizeOf97
  v64 := Try.zeroValue97 }
def Try.cloneA_ren : Go.Shelf.Ren := ⟨fun | 5 => 36 | 7 => 39 | n => n, fun | 23 => 53 | 25 => 3 | 3 => 61 | 4 => 4 | 20 => 20 | n => n, fun | n => n⟩
theorem Try.cloneA : Go.Proofs.SlLaysW.n5 Try.prog Try.cloneA_ren := {
  mixed := by kernel_rfl
  f5 := ⟨Try.f36.name, by decide, Try.func36.trans (congrArg some (by kernel_rfl))⟩
  f7 := Try.func39.trans (congrArg some (by kernel_rfl))
  t4 := Try.underlying4
  a4 := Try.isAgg4
  z4 := Try.sizeOf4
  v4 := Try.zeroValue4
  t20 := Try.underlying20
  a20 := Try.isAgg20
  z20 := Try.sizeOf20
  v20 := Try.zeroValue20
  t23 := Try.underlying53
  a23 := Try.isAgg53
  z23 := Try.sizeOf53
  v23 := Try.zeroValue53 }
theorem Try.sortsA (m : Nat) : AnyZI.SortsIn Try.prog Try.sortedA_ren Fence.wide m :=
  ⟨fun blk off cap ss W hH hblk hsz => callsIn_wide.2 (AnyM.slices_Sort_int Try.sortA blk off cap ss W hH hblk hsz),
   fun p cap W => callsIn_wide.2 (AnyM.slices_Sort_int_none Try.sortA p cap W)⟩
end Go.Proofs
namespace Go.Proofs.Ytmhhmhaigmjekaa
set_option linter.unusedVariables false
set_option linter.unusedSimpArgs false
open Go.RowKit Go.Maps Go.Sort Go.Shelf
open Go.WideElems (Fit rg)
theorem sorted_keys_eq {ss : List Int} {m : List Ent} (hs : Srt m) (h : ∀ x, x ∈ ss ↔ ∃ p ∈ m, p.1 = x) (hn : ss.Nodup) : ss.mergeSort (fun x y => decide (x ≤ y)) = List.map Prod.fst m := by
  have hp := List.mergeSort_perm ss fun x y => decide (x ≤ y)
  have h1 : (ss.mergeSort fun x y => decide (x ≤ y)).Pairwise fun x y => x ≤ y := by
    have := List.pairwise_mergeSort (le := fun x y : Int => decide (x ≤ y)) (fun a b c h1 h2 => by simp only [decide_eq_true_eq] at *; omega) (fun a b => by simp only [Bool.or_eq_true, decide_eq_true_eq]; omega) ss
    exact this.imp fun h => of_decide_eq_true h
  have h2 : (ss.mergeSort fun x y => decide (x ≤ y)).Nodup := hp.symm.nodup hn
  have h3 : ∀ {a b : List Int}, a.Pairwise (fun x y => x ≤ y) → a.Nodup → b.Pairwise (fun x y => x < y) → (∀ x, x ∈ a ↔ x ∈ b) → a = b := by
    intro a
    induction a with
    | nil =>
      intro b _ _ _ h
      cases b with
      | nil => rfl
      | cons y b => have := (h y).2 (.head _); cases this
    | cons x a ih =>
      intro b ha hn hb h
      cases b with
      | nil => have := (h x).1 (.head _); cases this
      | cons y b =>
        obtain ⟨a1, a2⟩ := List.pairwise_cons.1 ha
        obtain ⟨n1, n2⟩ := List.nodup_cons.1 hn
        obtain ⟨b1, b2⟩ := List.pairwise_cons.1 hb
        have e : x = y := by
          rcases List.mem_cons.1 ((h x).1 (.head _)) with e | hx
          · exact e
          · rcases List.mem_cons.1 ((h y).2 (.head _)) with e | hy
            · exact e.symm
            · have := b1 _ hx; have := a1 _ hy; omega
        subst e
        refine congrArg (x :: ·) (ih a2 n2 b2 fun z => ⟨fun hz => ?_, fun hz => ?_⟩)
        · rcases List.mem_cons.1 ((h z).1 (.tail _ hz)) with e | hz'
          · subst e; exact absurd hz n1
          · exact hz'
        · rcases List.mem_cons.1 ((h z).2 (.tail _ hz)) with e | hz'
          · subst e; have := b1 _ hz; omega
          · exact hz'
  refine h3 h1 h2 ?_ fun x => ?_
  · exact List.pairwise_map.2 hs
  · rw [hp.mem_iff, h x]
    simp only [List.mem_map]
def Rq : Value → Option (DataW Unit × List MemPlace) := fun _ => some (.nil, [])
theorem key_reads {P : Program} {k : TypeId} (hk : P.underlying k = some (.int .i64)) {es : Array MapEntry} {clock : Nat} {m : List Ent} (h : MQ es clock m) : ∀ x ∈ es.toList, ∃ p ∈ m, x.key = kI p.1 ∧ Go.WideElems.rd P k Rq x = some (.int .i64 p.1, .nil) := fun x hx => by
  obtain ⟨p, hp, e1, _⟩ := h.to_ x hx
  have ho := h.ok p hp
  refine ⟨p, hp, e1, ?_⟩
  have hw : (Lit.int .i64 p.1).wf = true := by
    unfold okS at ho
    have a1 : IntKind.i64.min = -9223372036854775808 := by decide
    have a2 : IntKind.i64.max = 9223372036854775807 := by decide
    simp only [Lit.wf, a1, a2, Bool.and_eq_true, decide_eq_true_eq]
    omega
  have hq := keyOf_int_mk (P := P) hk hw
  unfold Go.WideElems.rd
  rw [e1]
  simp [hq, Rq]
set_option maxRecDepth 100000 in
theorem sorted_keys (w : World) (D : Nat → Prop) (gB gw : Nat) (m : List Ent) (H : Own w D w [blk gB [.map (some gw)] 53, mapq gw m]) :
    Calls Try.prog 37 #[.func (.func 42) #[] #[.pointer (some ⟨gB, 0, none⟩)]] w (Ret fun v w' => ∃ A c, v = .slice A (List.length (List.map Prod.fst m)) c ∧
      Own w D w' [blk gB [.map (some gw)] 53, mapq gw m, row A (List.length (List.map Prod.fst m)) c (List.flatMap (eI .i64) (List.map Prod.fst m)) 3 1]) := by
  obtain ⟨es, clock, hm, hb⟩ := H.mqGet (i := 1) rfl
  have hcell : w.cell? ⟨gB, 0, none⟩ = some (.map (some gw)) := Cls.of (H.cls (i := 0) rfl) rfl
  have hBm : gB < w.heap.size := by
    obtain ⟨h, ⟨fz, h1, _⟩, h2⟩ := H.get (i := 0) rfl
    exact size_lt (h2 gB _ h1)
  have hk : Try.prog.underlying 3 = some (.int .i64) := Try.underlying3
  have hlen : es.size ≤ 4096 := by
    rw [hm.len]
    exact srt_len (lo := 0) (n := 4096) hm.srt fun p hp => ⟨(hm.ok p hp).1, by have := (hm.ok p hp).2.1; omega⟩
  have hrd := key_reads hk hm
  have hF : Fit Try.prog 3 Rq es clock := ⟨by unfold maxLen; omega, hm.st, fun x hx => by obtain ⟨p, _, _, e⟩ := hrd x hx; exact ⟨_, e⟩⟩
  have hown : w.ownsMap Try.prog 3 Rq gw 4096 (.map ((es.toList.map (rg Try.prog 3 Rq)).foldr DataW.insert [])) := ⟨es, clock, hb, hF, hlen, rfl⟩
  have hpl : ((es.toList.map (rg Try.prog 3 Rq)).foldr DataW.insert []).Perm (es.toList.map (rg Try.prog 3 Rq)) := Go.WideShapes.sorted_perm _
  have hsz : Maps.size (.map ((es.toList.map (rg Try.prog 3 Rq)).foldr DataW.insert []) : DataW Unit) ≤ 4096 := by
    rw [Maps.size_eq, hpl.length_eq, List.length_map, Array.length_toList]; exact hlen
  have hseq := AnyZI.keys_gives (ρ := Try.keysA_ren) { Try.keysA with } Fence.wide 2 trivial rfl (by omega) gB gw 4096 _ w hBm hcell hown
  have cS := AnyZI.sorted_in Try.sortedA Fence.wide 5 trivial trivial trivial trivial rfl (by omega) (Try.sortsA _) (enters_of Try.func41 (by kernel_rfl) rfl) 42 #[.pointer (some ⟨gB, 0, none⟩)] trivial (enters_of Try.func42 (by kernel_rfl) rfl) _ _ (Nat.le_trans hsz (by unfold maxLen; omega)) (by omega) _ hseq
  refine ((callsIn_wide (n := 5)).1 cS).mono ?_
  rintro e w' ⟨v, ss, rfl, hS, hrow, hnil, hbl⟩
  have hkeys : ∀ x, x ∈ ss ↔ ∃ p ∈ m, p.1 = x := fun x => by
    rw [hS.mem_iff]
    unfold intKeys
    simp only [List.mem_map]
    constructor
    · rintro ⟨q, hq, e⟩
      rw [hpl.mem_iff] at hq
      obtain ⟨y, hy, rfl⟩ := List.mem_map.1 hq
      obtain ⟨p, hp, _, e2⟩ := hrd y hy
      refine ⟨p, hp, ?_⟩
      unfold rg at e
      rw [e2] at e
      exact e
    · rintro ⟨p, hp, rfl⟩
      obtain ⟨y, hy, e1, _⟩ := hm.from_ p hp
      obtain ⟨p', _, e3, e2⟩ := hrd y hy
      have := kI_inj (e3.symm.trans e1)
      refine ⟨rg Try.prog 3 Rq y, hpl.mem_iff.2 (List.mem_map.2 ⟨y, hy, rfl⟩), ?_⟩
      unfold rg
      rw [e2]
      exact this
  have hnd : ss.Nodup := by
    refine hS.symm.nodup ?_
    unfold intKeys
    have h1 : (es.toList.map fun y => Go.intOf (rg Try.prog 3 Rq y).1).Nodup := by
      have hk2 := hm.st.2.2
      have hf : ∀ y ∈ es.toList, y.key = kI (Go.intOf (rg Try.prog 3 Rq y).1) := fun y hy => by
        obtain ⟨p, _, e1, e2⟩ := hrd y hy
        unfold rg
        rw [e2]
        exact e1
      rw [List.map_congr_left hf] at hk2
      have : (es.toList.map fun y => kI (Go.intOf (rg Try.prog 3 Rq y).1)) = (es.toList.map fun y => Go.intOf (rg Try.prog 3 Rq y).1).map kI := by rw [List.map_map]; rfl
      rw [this] at hk2
      exact List.Pairwise.imp (fun h e => h (congrArg kI e)) (List.pairwise_map.1 hk2)
    refine ((hpl.map fun p => Go.intOf p.1).symm.nodup ?_)
    rw [List.map_map]
    exact h1
  have hms := sorted_keys_eq hm.srt hkeys hnd
  rw [hms] at hrow
  have hl : ss.length = (List.map Prod.fst m).length := by rw [← hms, (List.mergeSort_perm ss _).length_eq]
  have henc : List.map encZ (List.map Prod.fst m) = List.flatMap (eI .i64) (List.map Prod.fst m) := by
    rw [show (eI .i64) = fun x => [encZ x] from rfl, flat_map]
  rw [henc, hl] at hrow
  obtain ⟨hrl, hrow⟩ := hrow
  have hkeep : ∀ k, k < w.heap.size → w'.heap[k]? = w.heap[k]? := hbl.block
  refine ⟨_, rfl, ?_⟩
  rcases hrow with ⟨rfl, h0⟩ | ⟨g, cap, cur, rfl, hg0, hg1, h2, h3, h4, h5⟩
  · refine ⟨none, 0, by rw [h0], ?_⟩
    have H0 : Own w D w' (row none (List.length (List.map Prod.fst m)) 0 (List.flatMap (eI .i64) (List.map Prod.fst m)) 3 1 :: [blk gB [.map (some gw)] 53, mapq gw m]) := H.cons hbl.os hbl.tape hbl.output hbl.size hkeep (fun _ => none) ⟨hrl, .inl ⟨rfl, h0, rfl⟩⟩ fun k o hk => by cases hk
    exact H0.pick [1, 2, 0] (by decide) rfl
  · refine ⟨some ⟨g, 0, none⟩, cap, rfl, ?_⟩
    have H0 : Own w D w' (row (some ⟨g, 0, none⟩) (List.length (List.map Prod.fst m)) cap (List.flatMap (eI .i64) (List.map Prod.fst m)) 3 1 :: [blk gB [.map (some gw)] 53, mapq gw m]) :=
      H.cons hbl.os hbl.tape hbl.output hbl.size hkeep (fun k => if k = g then some (.cells cur 3 (0, 0)) else none) ⟨hrl, .inr ⟨g, cur, (0, 0), rfl, by simp, h2, h3, h4, h5, Okf.zero _⟩⟩ fun k o hk => by
        by_cases e : k = g
        · subst e
          simp only [if_true, Option.some.injEq] at hk
          subst hk
          exact ⟨hg1, hg0⟩
        · simp only [e, if_false] at hk; cases hk
    exact H0.pick [1, 2, 0] (by decide) rfl
set_option maxRecDepth 100000 in
theorem map_clone (w : World) (D : Nat → Prop) (g : Nat) (m : List Ent) (H : Own w D w [mapq g m]) :
    Calls Try.prog 36 #[.map (some g)] w (Ret fun v w' => ∃ g', v = .map (some g') ∧ Own w D w' [mapq g' m, mapq g m]) := by
  obtain ⟨es, clock, hm, H1⟩ := H.mqOpen
  have hb := H1.objAt (i := 0) rfl
  refine (AnyW.maps_Clone Try.cloneA g es clock w hb).mono ?_
  rintro e w' ⟨rfl, rfl⟩
  refine ⟨_, rfl, w.heap.size, rfl, ?_⟩
  have H2 : Own w D (w.alloc (.map es clock)) [objE w.heap.size (.map es clock), objE g (.map es clock)] := H1.alloc _ (by show (if w.heap.size = w.heap.size then _ else _) = _; rw [if_pos rfl])
  exact Own.mqFold hm ((Own.mqFold hm (H2.pick [1, 0] (by decide) rfl)).pick [1, 0] (by decide) rfl)
/-- keys of such a map are places of sectors -/
theorem Own.mqKeys {w0 w : World} {D : Nat → Prop} {L : List HP} {i g : Nat} {m : List Ent} (H : Own w0 D w L) (hi : L[i]? = some (mapq g m)) : ∀ x ∈ List.map Prod.fst m, 0 ≤ x ∧ x < 4096 := fun x hx => by
  obtain ⟨p, hp, rfl⟩ := List.mem_map.1 hx
  have := (H.mqOk hi).2 p hp
  exact ⟨this.1, this.2.1⟩
end Go.Proofs.Ytmhhmhaigmjekaa
