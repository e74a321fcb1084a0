/-
  Arrays of many cells as rows: whole loads and stores, places that vary, copies into them, arrays of bytes compared.
  Conditions: none beyond each law's own.
-/
import Derived.Test.YtkekaemfokmhdaaKz
import Derived.Test.YtkekaemfokmhdaaKs
import Derived.ChangeKeysEq
namespace Go.Proofs.Ytkekaemfokmhdaa
set_option linter.unusedVariables false
set_option linter.unusedSimpArgs false
set_option linter.unusedSectionVars false
open Go.RowKit
section
variable {P : Program} {n : Nat} {F : List (Nat × Value)} {w0 w : World} {D : Nat → Prop} {L : List HP} {ty t T e : TypeId} {K : Value → World → Prop} {x y : Operand} {g : Nat} {cs xs ys news : List Value}
/-- An array's block as a row. -/
theorem Own.blkRow (m sz : Nat) {ys : List Value} (H : Own w0 D w (blk g cs t :: L)) (hl : Nat.beq cs.length (m * sz) = true) (hm : Nat.ble m 4294967296 = true) (hy : cs = ys) : Own w0 D w (row (some ⟨g, 0, none⟩) m m ys t sz :: L) := by
  subst hy
  have hl := Nat.eq_of_beq_eq_true hl
  have hm := Nat.le_of_ble_eq_true hm
  exact H.imp fun h ⟨fz, hg, hf⟩ => ⟨hl, .inr ⟨g, cs.toArray, fz, rfl, hg, Nat.le_refl _, by unfold maxLen; omega, by simpa using hl, by rw [List.toList_toArray, ← hl, List.take_length], by simpa using hf⟩⟩
/-- the whole of an array -/
theorem Lds.arr {m sz N : Nat} (hT : ∀ W, (isAgg T).run P W = .ok true W) (hS : ∀ W, (sizeOf T).run P W = .ok N W) (h : Rds w sz (some ⟨g, 0, none⟩) m xs) (hN : N = m * sz) (hm : 0 < m) : Lds P w T ⟨g, 0, none⟩ (.agg xs.toArray) :=
  Lds.agg hT (by rw [h.1, ← hN]; exact hS) (h.cls hm)
theorem Do.storeArr {m sz N : Nat} (H : Own w0 D w (row (some ⟨g, 0, none⟩) m m xs t sz :: L)) (hx : ev F x = some (.pointer (some ⟨g, 0, none⟩))) (hy : ev F y = some (.agg ys.toArray)) (hS : ∀ W, (sizeOf T).run P W = .ok N W) (hN : N = m * sz) (hp : 0 < N) (hl : ys.length = m * sz) (h1 : ∀ u ∈ ys, u.oneCell' = true)
    (h : ∀ w', Own w0 D w' (row (some ⟨g, 0, none⟩) m m ys t sz :: L) → K undef w') : Do P n F w (.store T x y) ty K := by
  have hle := H.rowLe (i := 0) rfl
  refine Do.storeRow (vs := ys) (o := 0) (q := 0) (xs' := ys) H hx rfl hy (by rw [hl, ← hN]; exact hS) rfl (List.all_eq_true.2 h1) (by omega) (by omega) ?_ h
  unfold put
  rw [List.take_zero, List.nil_append, Nat.zero_add, List.drop_of_length_le (by omega), List.append_nil]
theorem Yl.indexArr {i m sz : Nat} {k : IntKind} (hu : P.underlying T = some (.array m e)) (hs : ∀ W, (sizeOf e).run P W = .ok sz W) (hx : ev F x = some (.pointer (some ⟨g, 0, none⟩))) (hy : ev F y = some (.int k (i : Int))) (hi : i < m) : Yl P n F w (.indexAddr T x y) ty (.pointer (some ⟨ab (some ⟨g, 0, none⟩), ao (some ⟨g, 0, none⟩) + i * sz, none⟩)) := fun ac ha o h1 _ => by
  unfold execOp
  rw [h1]
  have he : P.elem T = e := by simp [Program.elem, hu]
  have hn : P.arrayLen T = m := by simp [Program.arrayLen, hu]
  have := run_indexAt_array (P := P) w T ⟨g, 0, none⟩ k (i : Int) (by rw [he, hn]; exact hu)
  rw [he, hn, if_pos ⟨by omega, by omega⟩, hs, Int.toNat_natCast] at this
  simp only [ha.eval hx, ha.eval hy, Sem.run_bind, Sem.run_pure, Result.andThen_ok, this]
  simp only [Result.andThen_ok, add0]
  rfl
/-- an element of an array that is a value -/
theorem Yl.indexVal {i m : Nat} {k : IntKind} {v : Value} (hu : P.underlying T = some (.array m e)) (hs : ∀ W, (sizeOf e).run P W = .ok 1 W) (hT : ∀ W, (isAgg e).run P W = .ok false W) (hx : ev F x = some (.agg xs.toArray)) (hy : ev F y = some (.int k (i : Int))) (hi : i < m) (hv : xs[i]? = some v) : Yl P n F w (.index T x y) ty v := fun ac ha o h1 _ => by
  unfold execOp
  rw [h1]
  simp [ha.eval hx, ha.eval hy, Instr.index, asIntOf, run_underlying hu, hs, part, hT, hi, hv, Result.andThen]
theorem Do.copyA {A Ad B : Option Addr} {q c nd cd m cm lo k e2 size bytes : Nat} {tx : TypeId} (el : Elem P t e2 size bytes) (H : Own w0 D w (row A q c xs e size :: L)) (hx : ev F x = some (.slice Ad nd cd)) (hA : 0 < nd → Ad = some ⟨ab A, ao A + lo * size, none⟩) (hfit : lo + nd ≤ q)
    (hy : ev F y = some (.slice B m cm)) (hr : Rds w size B m news) (h1' : ∀ u ∈ news, u.oneCell' = true) (hk : min m nd = k) (hys : put xs (lo * size) (news.take (k * size)) = ys) (h : ∀ w', Own w0 D w' (row A q c ys e size :: L) → K (.int .i64 (k : Int)) w') :
    Do P n F w (.call ⟨.builtin .copy, [x, y].toArray, [t, tx].toArray⟩) ty K := fun a ha o h2 h3 next Q hn => by
  have h1 : ∀ u ∈ news.take (k * size), u.oneCell' = true := fun u hu => h1' u (List.mem_of_mem_take hu)
  obtain ⟨i, z, ht, hi, hz, rfl, rfl, hzs, hsz⟩ := el
  have hfc := firstCells_rds (P := P) (k := k) (c := cm) hr (by omega)
  have hlen : (news.take (k * i.size)).length = k * i.size := by
    rw [List.length_take, hr.1]
    exact Nat.min_eq_left (Nat.mul_le_mul_right _ (by omega))
  have hxl := H.rowLe (i := 0) rfl
  have key : ∃ w', (match Ad with | some a => storeCells a (news.take (k * i.size)) 0 | none => pure ()).run P w = .ok () w' ∧ Own w0 D w' (row A q c ys e i.size :: L) := by
    rcases Nat.eq_zero_or_pos k with h0 | h0
    · subst h0
      have hn0 : news.take (0 * i.size) = [] := by simp
      rw [hn0] at hys ⊢
      have : ys = xs := by rw [← hys]; simp [put]
      subst this
      refine ⟨w, ?_, H⟩
      cases Ad <;> rfl
    · have hnd : 0 < nd := by omega
      have hAd := hA hnd
      subst hAd
      have hpos : 0 < (news.take (k * i.size)).length := by rw [hlen]; exact Nat.mul_pos h0 hsz
      exact H.storeRow (P := P) (by rw [List.all_eq_true]; exact fun u hu => h1 u hu) hpos (by
        rw [hlen, hxl.2.2, ← Nat.add_mul]
        exact Nat.mul_le_mul_right _ (by omega)) hys
  obtain ⟨w', hst, H'⟩ := key
  unfold execOp
  rw [h2]
  have hrun : (Builtin.copy_ #[t, tx] o.type #[.slice Ad nd cd, .slice B m cm]).run P w = .ok (.int .i64 (k : Int)) w' := by
    simp only [Builtin.copy_, List.getElem?_toArray, List.getElem?_cons_zero, List.getElem?_cons_succ, Sem.run_bind, run_underlying ht, Result.andThen_ok, Builtin.lenOf, Sem.run_pure, sizeOf, typeInfo]
    have hmin : Nat.min m nd = k := hk
    simp [hi, hmin, hfc, Result.andThen]
    cases Ad with
    | none =>
      simp only [Sem.run_pure] at hst
      injection hst with _ hw
      subst hw
      rfl
    | some b =>
      simp only at hst
      simp [hst, Result.andThen, goInt]
  simp only [resolve, invoke, builtin, Sem.run_bind, Sem.run_pure, Result.andThen_ok, List.map_toArray, List.map_cons, List.map_nil, ha.eval hx, ha.eval hy, hrun]
  exact hn _ _ (h w' H')
/-! ### arrays of bytes compared -/
theorem flat_at1 {α : Type} {enc : α → List Value} (hz : ∀ x, (enc x).length = 1) {ls : List α} {i : Nat} {x : α} {v : Value} (hx : ls[i]? = some x) (hv : (enc x)[0]? = some v := by rfl) : (List.flatMap enc ls)[i]? = some v := by
  have := flat_at hz hx hv
  rwa [Nat.mul_one, Nat.add_zero] at this
theorem eB_at {l : List UInt8} {i : Nat} {b : UInt8} (h : l[i]? = some b) : (List.flatMap eB l).toArray[i]? = some (.int .u8 (b.toNat : Int)) := by
  rw [List.getElem?_toArray, eB_map, List.getElem?_map, h]; rfl
theorem eqBytes {d : Nat} (he : P.underlying e = some (.int .u8)) (hc : P.cellsOf e = 1) (hT : ∀ W, (isAgg e).run P W = .ok false W) {a b : List UInt8} {m : Nat} (ha : a.length = m) (hb : b.length = m) : ∀ (is : List Nat), (∀ i ∈ is, i < m) →
    (Op.eqItems (d + 1) e (P.cellsOf e) (List.flatMap eB a).toArray (List.flatMap eB b).toArray is).run P w = .ok (decide (∀ i ∈ is, a[i]? = b[i]?)) w
  | [], _ => by simp [Op.eqItems]
  | i :: is, h => by
    have hi := h i (.head _)
    obtain ⟨x, hx⟩ : ∃ x, a[i]? = some x := ⟨_, List.getElem?_eq_getElem (by omega)⟩
    obtain ⟨y, hy⟩ : ∃ y, b[i]? = some y := ⟨_, List.getElem?_eq_getElem (by omega)⟩
    have ih := eqBytes (d := d) he hc hT ha hb is fun j hj => h j (.tail _ hj)
    rw [Op.eqItems, hc, Nat.mul_one]
    rw [hc] at ih
    simp only [part, Sem.run_bind, hT, Result.andThen_ok, Bool.false_eq_true, if_false, eB_at hx, eB_at hy, Sem.run_pure, run_equalIn_int w d e .u8 .u8 _ _ he]
    by_cases exy : x = y
    · subst exy
      simp only [beq_self_eq_true, Bool.not_true, Bool.false_eq_true, if_false, ih]
      refine congrArg (fun z => Result.ok z w) ?_
      simp [hx, hy]
    · have : ((x.toNat : Int) == (y.toNat : Int)) = false := by
        rw [beq_eq_false_iff_ne]
        intro q
        exact exy (UInt8.toNat_inj.1 (by omega))
      simp only [this, Bool.not_false, if_true, Sem.run_pure]
      refine congrArg (fun z => Result.ok z w) ?_
      symm
      apply decide_eq_false
      intro hh
      have := hh i (.head _)
      rw [hx, hy] at this
      exact exy (Option.some.inj this)
theorem Eqv.bytes {a b : List UInt8} {m : Nat} (hu : P.underlying t = some (.array m e)) (hi : (P.info? e).isSome = true) (he : P.underlying e = some (.int .u8)) (hc : P.cellsOf e = 1) (hT : ∀ W, (isAgg e).run P W = .ok false W) (ha : a.length = m) (hb : b.length = m) : Eqv P 2 t (.agg (List.flatMap eB a).toArray) (.agg (List.flatMap eB b).toArray) (decide (a = b)) := fun d w => by
  obtain ⟨i, hi⟩ := Option.isSome_iff_exists.1 hi
  rw [show d + 2 = (d + 1) + 1 from rfl, run_equalIn_array (P := P) (w := w) (d + 1) _ _ hu hi, eqBytes he hc hT ha hb _ (fun i hi => List.mem_range.1 hi)]
  refine congrArg (fun z => Result.ok z w) (decide_eq_decide.2 ⟨fun h => List.ext_getElem? fun j => ?_, fun h => by rw [h]; exact fun _ _ => rfl⟩)
  by_cases hj : j < m
  · exact h j (List.mem_range.2 hj)
  · rw [List.getElem?_eq_none (by omega), List.getElem?_eq_none (by omega)]
end
end Go.Proofs.Ytkekaemfokmhdaa
