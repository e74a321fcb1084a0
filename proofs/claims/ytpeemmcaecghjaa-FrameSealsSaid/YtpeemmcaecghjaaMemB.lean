/-
  An append to a row of one's own, with a word on every cell of the row's block, the spare ones too.
-/
import Derived.Test.YtpeemmcaecghjaaMem
namespace Go.Proofs.Ytpeemmcaecghjaa
open Go.RowKit

/-- Every cell of the row's own block, the spare ones too, is such a value. -/
def AllIn (Φ : Value → Prop) (e : TypeId) (v : Value) (w : World) : Prop := ∀ (g : Nat) (cur : Array Value), v.ownBlock = some g → w.heap[g]? = some (.cells cur e (0, 0)) → ∀ u ∈ cur.toList, Φ u

theorem AllIn.below {Φ : Value → Prop} {e base size n : Nat} {v : Value} {xs : List Value} {w w' : World} (h : AllIn Φ e v w) (hown : w.ownsRow base e size v n xs) (hb : Below w.heap.size w w') : AllIn Φ e v w' := fun g cur hg hc u hu =>
  h g cur hg (by rw [← hb.block g (hown.lt g hg).2]; exact hc) u hu

theorem zero_mem {z : Array Value} {n : Nat} {u : Value} (h : u ∈ (Builtin.zeroCells z n).toList) : u ∈ z.toList := by
  simp only [Builtin.zeroCells, Array.toList_map, List.mem_map] at h
  obtain ⟨i, hi, rfl⟩ := h
  have hi2 : i < n * z.size := by simpa using hi
  have hz : 0 < z.size := by
    rcases Nat.eq_zero_or_pos z.size with h0 | h0
    · rw [h0, Nat.mul_zero] at hi2; omega
    · exact h0
  have hm := Nat.mod_lt i hz
  rw [getElem!_pos z (i % z.size) hm, Array.mem_toList_iff]
  exact Array.getElem_mem hm

section
variable {P : Program} {w : World}
theorem append_srcB (Φ : Value → Prop) {base t e size bytes : Nat} (el : Elem P t e size bytes) (tx ty : TypeId) {v : Value} {n : Nat} {xs : List Value} (hown : w.ownsRow base e size v n xs) {x : Value} {m : Nat} {news : List Value} (hs : Src P size tx x m news w)
    (h63 : n + m ≤ maxLen) (hgs : ∀ old, old < n + m → Builtin.nextslicecap (n + m) old * bytes ≤ 281474976710656) (hbase : base ≤ w.heap.size) (hΦz : ∀ i z, P.info? e = some i → i.zero = some z → ∀ u ∈ z.cells.toList, Φ u) (hΦn : ∀ u ∈ news, Φ u) (hΦx : ∀ u ∈ xs, Φ u) (hΦ : AllIn Φ e v w) :
    ∃ v' w', (Builtin.append_ #[t, tx] ty #[v, x]).run P w = .ok v' w' ∧ w'.ownsRow base e size v' (n + m) (xs ++ news) ∧ w.grownBy w' v.ownBlock ∧ AllIn Φ e v' w' := by
  obtain ⟨i, z, ht, hi, hz, rfl, rfl, hzs, hsz⟩ := el
  have hzc := hΦz i z hi hz
  have allG : ∀ (old : Nat), AllIn Φ e (.slice (some ⟨w.heap.size, 0, none⟩) (n + m) (grownCap w (n + m) old e)) (w.drew.alloc (.cells ((xs ++ news).toArray ++ Builtin.zeroCells z.cells (grownCap w (n + m) old e - (n + m))) e)) := fun old g cur hg hc u hu => by
    simp only [Value.ownBlock, Option.some.injEq] at hg
    subst hg
    have h1 : some (Obj.cells _ e (0, 0)) = some (.cells cur e (0, 0)) := (heap_alloc_new w.drew _).symm.trans hc
    simp only [Option.some.injEq, Obj.cells.injEq] at h1
    rw [← h1.1, Array.toList_append, List.mem_append, List.mem_append] at hu
    rcases hu with (hu | hu) | hu
    · exact hΦx u hu
    · exact hΦn u hu
    · exact hzc u (zero_mem hu)
  have hsmall : n + m ≤ 9223372036854775807 := by simp only [maxLen] at h63; omega
  have hlen : (xs ++ news).length = (n + m) * i.size := by rw [List.length_append, hown.1, hs.newsLen, Nat.add_mul]
  have grown : ∀ (old : Nat) (row : Option Nat),
      (w.drew.alloc (.cells ((xs ++ news).toArray ++ Builtin.zeroCells z.cells (grownCap w (n + m) old e - (n + m))) e)).ownsRow base e i.size
        (.slice (some ⟨w.heap.size, 0, none⟩) (n + m) (grownCap w (n + m) old e)) (n + m) (xs ++ news) ∧
      w.grownBy (w.drew.alloc (.cells ((xs ++ news).toArray ++ Builtin.zeroCells z.cells (grownCap w (n + m) old e - (n + m))) e)) row := by
    intro old row
    have hge := grownCap_ge w (n + m) old e
    have hcm : grownCap w (n + m) old e ≤ maxLen := grownCap_le_maxLen w (n + m) old e h63
    refine ⟨⟨hlen, .inr ⟨w.heap.size, _, _, rfl, hbase, heap_alloc_new w.drew _, hge, hcm, ?_, ?_⟩⟩, ⟨rfl, rfl, rfl, by simp, fun k hk _ => _root_.Go.heap_alloc_old w.drew _ hk⟩⟩
    · rw [Array.size_append, size_of_zero, hzs, List.size_toArray, hlen, ← Nat.add_mul]
      congr 1
      omega
    · rw [Array.toList_append, ← hlen, List.toList_toArray]
      exact List.take_left
  rcases hown.2 with ⟨rfl, rfl⟩ | ⟨g, cap, cur, rfl, hbg, hg, hnc, hcm, hcs, htake⟩
  · have hx : xs = [] := List.eq_nil_of_length_eq_zero (by simpa using hown.1)
    subst hx
    by_cases hm : m = 0
    · subst hm
      have hn : news = [] := List.eq_nil_of_length_eq_zero (by simpa using hs.newsLen)
      subst hn
      refine ⟨.slice none 0 0, w, ?_, World.ownsRow_nil w base e i.size, ⟨rfl, rfl, rfl, Nat.le_refl _, fun _ _ _ => rfl⟩, fun g cur hg => by cases hg⟩
      have hc := hs.cells
      rcases hs.kind with ⟨e', hk⟩ | hk <;> simp [Builtin.append_, run_underlying ht, run_underlying hk, sizeOf, typeInfo, hi, hs.len, hc, storeCells]
    · have hr := run_append_grow_src (P := P) w t tx ty e i z ht hi hz none 0 0 [] (by simp [Builtin.firstCells, loadCells, loadCellsFrom]) x m news hs (by omega) (by omega) (hgs 0 (by omega))
      have hgr := grown 0 (Value.ownBlock (.slice none 0 0))
      exact ⟨_, _, hr, hgr.1, hgr.2, allG 0⟩
  · by_cases hroom : n + m ≤ cap
    · have hfit : n * i.size + news.length ≤ cur.size := by rw [hs.newsLen, hcs, ← Nat.add_mul]; exact Nat.mul_le_mul_right _ hroom
      have hst := run_storeCells_at P g (n * i.size) e news 0 cur w hg (by simpa using hfit) hs.one
      simp only [Nat.add_zero] at hst
      have hr : (Builtin.append_ #[t, tx] ty #[.slice (some ⟨g, 0, none⟩) n cap, x]).run P w = .ok (.slice (some ⟨g, 0, none⟩) (n + m) cap) (w.setRow g (cur.toList.take (n * i.size) ++ news ++ cur.toList.drop (n * i.size + news.length)).toArray) := by
        rcases hs.kind with ⟨e', hk⟩ | hk <;> simp [Builtin.append_, run_underlying ht, run_underlying hk, sizeOf, typeInfo, hi, hs.len, hroom, hs.cells, Addr.add_lit, hst]
      refine ⟨_, _, hr, ⟨hlen, .inr ⟨g, cap, _, rfl, hbg, setRow_heap w g cur _ e _ hg, hroom, hcm, ?_, ?_⟩⟩, ⟨rfl, rfl, rfl, by simp, fun k _ hk => setRow_other w g k _ (fun e => hk (by simp [Value.ownBlock, e]))⟩, ?_⟩
      · simp only [List.size_toArray, List.length_append, List.length_take, List.length_drop, Array.length_toList]
        omega
      · rw [htake, ← hlen]
        exact List.take_left
      · intro g' cur' hg' hc' u hu
        simp only [Value.ownBlock, Option.some.injEq] at hg'
        subst hg'
        rw [setRow_heap w g cur _ e _ hg] at hc'
        simp only [Option.some.injEq, Obj.cells.injEq] at hc'
        rw [← hc'.1, List.mem_append, List.mem_append] at hu
        rcases hu with (hu | hu) | hu
        · exact hΦ g cur rfl hg u (List.mem_of_mem_take hu)
        · exact hΦn u hu
        · exact hΦ g cur rfl hg u (List.mem_of_mem_drop hu)
    · have holds : ∀ j u, xs[j]? = some u → w.cell? ((⟨g, 0, none⟩ : Addr).add j) = some u := hown.cells (g := g) rfl
      have hold : (Builtin.firstCells i.size n (.slice (some ⟨g, 0, none⟩) n cap)).run P w.drew = .ok xs.toArray w.drew := run_firstCells_some w.drew i.size n ⟨g, 0, none⟩ n cap xs hown.1 (by simpa using holds)
      have hr := run_append_grow_src (P := P) w t tx ty e i z ht hi hz (some ⟨g, 0, none⟩) n cap xs hold x m news hs (by omega) (by omega) (hgs cap (by omega))
      have hgr := grown cap (Value.ownBlock (.slice (some ⟨g, 0, none⟩) n cap))
      exact ⟨_, _, hr, hgr.1, hgr.2, allG cap⟩

theorem wp_appB (Φ : Value → Prop) {ops : Array Oper} {rest : List Oper} {o : Oper} {a : Act} {Q : Exit → Act → World → Prop} (hgd : o.guard = none) (s x : Operand) (t tx : TypeId)
    (ho : o.op = .call { callee := .builtin .append, args := #[s, x], argTypes := #[t, tx] }) {base e size bytes : Nat} (el : Elem P t e size bytes)
    (hΦz : ∀ i z, P.info? e = some i → i.zero = some z → ∀ u ∈ z.cells.toList, Φ u)
    {v : Value} {n : Nat} {xs : List Value} (hs : a.eval s = v) (hown : w.ownsRow base e size v n xs) {u : Value} (hx : a.eval x = u) {m : Nat} {news : List Value} (hsrc : Src P size tx u m news w)
    (hΦn : ∀ u ∈ news, Φ u) (hΦx : ∀ u ∈ xs, Φ u) (hΦ : AllIn Φ e v w)
    (h63 : n + m ≤ maxLen) (hbytes : (n + m) * bytes ≤ 140737488355328) (hbase : base ≤ w.heap.size)
    (h : ∀ v' w', w'.ownsRow base e size v' (n + m) (xs ++ news) → AllIn Φ e v' w' → Below base w w' → wpList P ops Q rest (a.put o.dst v') w') : wpList P ops Q (o :: rest) a w := by
  refine wpList_plain hgd fun K hK => ?_
  obtain ⟨v', w', hr, h2, h3, h4⟩ := append_srcB (P := P) Φ el tx o.type hown hsrc h63 (fun _ ho' => growslice_fits ho' hbytes) hbase hΦz hΦn hΦx hΦ
  unfold Oper.wp execOp
  simp only [ho, resolve, invoke, builtin, Sem.run_bind, Sem.run_pure, Result.andThen_ok, List.map_toArray, List.map_cons, List.map_nil, hs, hx, hr]
  exact hK _ _ (h v' w' h2 h4 (grown_below hown hbase h3))
end
end Go.Proofs.Ytpeemmcaecghjaa
