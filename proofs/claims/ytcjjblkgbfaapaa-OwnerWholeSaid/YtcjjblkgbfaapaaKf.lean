/-
  Strings, indexes, cuts as steps.
  Conditions: none beyond each law's own.
-/
import Derived.Test.YtcjjblkgbfaapaaKe
import Derived.Sort.Walk0
namespace Go.Proofs.Ytcjjblkgbfaapaa
set_option linter.unusedVariables false
set_option linter.unusedSimpArgs false
open Go.RowKit
section
variable {P : Program} {n : Nat} {F : List (Nat × Value)} {w : World} {ty T : TypeId} {x y : Operand} {a b l : List UInt8}
theorem dec_eq_beq (a b : List UInt8) : (a == b) = decide (a = b) := by by_cases h : a = b <;> simp [h]
theorem Yl.bin {op : BinOp} {v u r : Value} {yt : TypeId} (hx : ev F x = some v) (hy : ev F y = some u) (hg : ∀ x y, eqGuard op T x y v u = pure ()) (hr : (binOp op T v u).run P w = .ok r w) : Yl P n F w (.binOp op T x y yt) ty r := fun ac ha o h1 _ => by
  unfold execOp
  rw [h1]
  simp only [ha.eval hx, ha.eval hy, hg, Sem.run_bind, Sem.run_pure, Result.andThen_ok, hr]
theorem eqg_str (op : BinOp) (t : TypeId) (s : ByteArray) (v : Value) (x y : Operand) : eqGuard op t x y (.string s) v = pure () := by cases op <;> rfl
theorem Yl.strEq {yt : TypeId} (hx : ev F x = some (.string ⟨a.toArray⟩)) (hy : ev F y = some (.string ⟨b.toArray⟩)) : Yl P n F w (.binOp .eql T x y yt) ty (.bool (decide (a = b))) :=
  Yl.bin hx hy (eqg_str _ _ _ _) (by rw [binOp_string_eql, ByteArray.toList_mk, ByteArray.toList_mk, dec_eq_beq]; rfl)
theorem Yl.strNe {yt : TypeId} (hx : ev F x = some (.string ⟨a.toArray⟩)) (hy : ev F y = some (.string ⟨b.toArray⟩)) : Yl P n F w (.binOp .neq T x y yt) ty (.bool (decide (a ≠ b))) :=
  Yl.bin hx hy (eqg_str _ _ _ _) (by rw [binOp_string_neq, ByteArray.toList_mk, ByteArray.toList_mk, dec_eq_beq]; simp)
theorem Yl.strLt {yt : TypeId} (hx : ev F x = some (.string ⟨a.toArray⟩)) (hy : ev F y = some (.string ⟨b.toArray⟩)) : Yl P n F w (.binOp .lss T x y yt) ty (.bool (Op.bytesLess a b)) :=
  Yl.bin hx hy (eqg_str _ _ _ _) (by rw [binOp_string_lss, ByteArray.toList_mk, ByteArray.toList_mk]; rfl)
theorem Yl.strLe {yt : TypeId} (hx : ev F x = some (.string ⟨a.toArray⟩)) (hy : ev F y = some (.string ⟨b.toArray⟩)) : Yl P n F w (.binOp .leq T x y yt) ty (.bool (Op.bytesLess a b || decide (a = b))) :=
  Yl.bin hx hy (eqg_str _ _ _ _) (by rw [binOp_string_leq, ByteArray.toList_mk, ByteArray.toList_mk, dec_eq_beq]; rfl)
theorem bl_lt (a b : List UInt8) : Op.bytesLess a b = decide (a < b) := by rw [Proofs.bytesLess_eq]
theorem bl_le (a b : List UInt8) : (Op.bytesLess a b || decide (a = b)) = decide (a ≤ b) := by
  rw [bl_lt]
  by_cases h1 : a < b
  · have : a ≤ b := by grind
    simp [h1, this]
  · by_cases h2 : a = b
    · subst h2; have : a ≤ a := by grind
      simp [this]
    · have : ¬ a ≤ b := by grind
      simp [h1, h2, this]
variable {A : Option Addr} {m c e sz bytes : Nat}
def cutA (A : Option Addr) (lo sz c : Nat) : Option Addr := if c = lo then A else A.map (·.add (lo * sz))
theorem cutA_pos {lo : Nat} (h : A = some ⟨ab A, ao A, none⟩) (hlt : lo < c) : cutA A lo sz c = some ⟨ab A, ao A + lo * sz, none⟩ := by
  unfold cutA
  rw [if_neg (by omega), h]
  simp [add0, ab, ao]
theorem Rds.cut {lo hi : Nat} {xs : List Value} (h : Rds w sz A m xs) (h1 : lo ≤ hi) (h2 : hi ≤ m) (hc : m ≤ c) : Rds w sz (cutA A lo sz c) (hi - lo) ((xs.drop (lo * sz)).take ((hi - lo) * sz)) :=
  h.sub (by omega) fun hp => cutA_pos (h.isSome (by omega)) (by omega)
theorem elem_eq {t : TypeId} (ht : P.underlying t = some (.slice e)) : P.elem t = e := by simp [Program.elem, ht]
theorem sliceAt_sl {lo hi mx : Option Value} (hu : P.underlying T = some (.slice e)) : (Instr.sliceAt T (.slice A m c) lo hi mx).run P w = (Instr.slice T (.slice A m c) lo hi mx).run P w := by
  simp [Instr.sliceAt, run_underlying hu]
theorem run_cut (el : Elem P T e sz bytes) {i j : Nat} {k k' : IntKind} (h1 : i ≤ j) (h2 : j ≤ c) : (Instr.slice T (.slice A m c) (some (.int k (i : Int))) (some (.int k' (j : Int))) none).run P w = .ok (.slice (cutA A i sz c) (j - i) (c - i)) w := by
  obtain ⟨q, _, ht, hi, _, rfl, _⟩ := el
  have ht' : P.underlying T = some (.slice (P.elem T)) := by rw [elem_eq ht]; exact ht
  rw [run_slice_lh w T A m c ht' k k' i j (by omega) (by omega) (by omega)]
  simp [elem_eq ht, sizeOf, typeInfo, hi, Result.andThen, sliced, cutA]
theorem run_cutFrom (el : Elem P T e sz bytes) {i : Nat} {k : IntKind} (h1 : i ≤ m) : (Instr.slice T (.slice A m c) (some (.int k (i : Int))) none none).run P w = .ok (.slice (cutA A i sz c) (m - i) (c - i)) w := by
  obtain ⟨q, _, ht, hi, _, rfl, _⟩ := el
  have ht' : P.underlying T = some (.slice (P.elem T)) := by rw [elem_eq ht]; exact ht
  rw [run_slice_l w T A m c ht' k i (by omega) (by omega)]
  simp [elem_eq ht, sizeOf, typeInfo, hi, Result.andThen, sliced, cutA]
theorem run_cutTo (el : Elem P T e sz bytes) {j : Nat} {k : IntKind} (h2 : j ≤ c) : (Instr.slice T (.slice A m c) none (some (.int k (j : Int))) none).run P w = .ok (.slice A j c) w := by
  obtain ⟨q, _, ht, hi, _, rfl, _⟩ := el
  have ht' : P.underlying T = some (.slice (P.elem T)) := by rw [elem_eq ht]; exact ht
  rw [run_slice_h w T A m c ht' k j (by omega) (by omega)]
  simp [elem_eq ht, sizeOf, typeInfo, hi, Result.andThen, sliced]
  cases A <;> simp [Addr.add]
theorem Yl.sl {v : Value} {lo hi mx : Option Operand} {lo' hi' mx' : Option Value} (el : Elem P T e sz bytes) (hx : ev F x = some (.slice A m c)) (hlo : lo.map (ev F) = lo'.map some) (hhi : hi.map (ev F) = hi'.map some) (hmx : mx.map (ev F) = mx'.map some) (hr : (Instr.slice T (.slice A m c) lo' hi' mx').run P w = .ok v w) :
    Yl P n F w (.slice T x lo hi mx) ty v := fun ac ha o h1 _ => by
  have key : ∀ (a : Option Operand) (b : Option Value), a.map (ev F) = b.map some → a.map ac.eval = b := fun a b h => by
    cases a <;> cases b <;> simp at h ⊢
    exact ha.eval h
  unfold execOp
  rw [h1]
  simp only [ha.eval hx, key _ _ hlo, key _ _ hhi, key _ _ hmx, Sem.run_bind, sliceAt_sl el.und, hr, Sem.run_pure, Result.andThen_ok]
theorem Yl.cut {lx hx' : Operand} {i j : Nat} {k k' : IntKind} (el : Elem P T e sz bytes) (hx : ev F x = some (.slice A m c)) (hl : ev F lx = some (.int k (i : Int))) (hh : ev F hx' = some (.int k' (j : Int))) (h1 : i ≤ j) (h2 : j ≤ c) : Yl P n F w (.slice T x (some lx) (some hx') none) ty (.slice (cutA A i sz c) (j - i) (c - i)) :=
  Yl.sl el hx (lo' := some (.int k (i : Int))) (hi' := some (.int k' (j : Int))) (mx' := none) (by simp [hl]) (by simp [hh]) rfl (run_cut el h1 h2)
theorem Yl.cutFrom {lx : Operand} {i : Nat} {k : IntKind} (el : Elem P T e sz bytes) (hx : ev F x = some (.slice A m c)) (hl : ev F lx = some (.int k (i : Int))) (h1 : i ≤ m) : Yl P n F w (.slice T x (some lx) none none) ty (.slice (cutA A i sz c) (m - i) (c - i)) :=
  Yl.sl el hx (lo' := some (.int k (i : Int))) (hi' := none) (mx' := none) (by simp [hl]) rfl rfl (run_cutFrom el h1)
theorem Yl.cutTo {hx' : Operand} {j : Nat} {k : IntKind} (el : Elem P T e sz bytes) (hx : ev F x = some (.slice A m c)) (hh : ev F hx' = some (.int k (j : Int))) (h2 : j ≤ c) : Yl P n F w (.slice T x none (some hx') none) ty (.slice A j c) :=
  Yl.sl el hx (lo' := none) (hi' := some (.int k (j : Int))) (mx' := none) rfl (by simp [hh]) rfl (run_cutTo el h2)
theorem Yl.indexAddr {i : Nat} {k : IntKind} (el : Elem P T e sz bytes) (hx : ev F x = some (.slice A m c)) (hy : ev F y = some (.int k (i : Int))) (hA : A = some ⟨ab A, ao A, none⟩) (hi : i < m) : Yl P n F w (.indexAddr T x y) ty (.pointer (some ⟨ab A, ao A + i * sz, none⟩)) := fun ac ha o h1 _ => by
  obtain ⟨q, _, ht, hq, _, rfl, _⟩ := el
  unfold execOp
  rw [h1]
  have ht' : P.underlying T = some (.slice (P.elem T)) := by rw [elem_eq ht]; exact ht
  have := run_indexAt_slice (P := P) w T ⟨ab A, ao A, none⟩ m c k i ht'
  simp only [ha.eval hx, ha.eval hy]
  rw [hA]
  simp only [Sem.run_bind, this]
  rw [if_pos (by omega)]
  simp [elem_eq ht, sizeOf, typeInfo, hq, Result.andThen, add0, ab, ao]
theorem Yl.sliceNil {yt : TypeId} {m' c' : Nat} (hu : P.underlying T = some (.slice e)) (hx : ev F x = some (.slice A m c)) (hy : ev F y = some (.slice none m' c')) : Yl P n F w (.binOp .eql T x y yt) ty (.bool A.isNone) :=
  Yl.bin hx hy (fun _ _ => rfl) (Lib.run_eql_slice_nil w T e A m c m' c' hu)
end
theorem flat_at {α : Type} {enc : α → List Value} {sz : Nat} (hz : ∀ x, (enc x).length = sz) : ∀ {ls : List α} {i : Nat} {x : α} {f : Nat} {v : Value}, ls[i]? = some x → (enc x)[f]? = some v → (ls.flatMap enc)[i * sz + f]? = some v
  | [], _, _, _, _, h, _ => by simp at h
  | y :: ls, 0, x, f, v, h, hf => by
    simp only [List.getElem?_cons_zero, Option.some.injEq] at h
    subst h
    have := (List.getElem?_eq_some_iff.1 hf).1
    rw [List.flatMap_cons, Nat.zero_mul, Nat.zero_add, List.getElem?_append_left this]; exact hf
  | y :: ls, i + 1, x, f, v, h, hf => by
    simp only [List.getElem?_cons_succ] at h
    have ih := flat_at hz h hf
    rw [List.flatMap_cons, List.getElem?_append_right (by rw [hz, Nat.add_mul]; omega), hz, show (i + 1) * sz + f - sz = i * sz + f by rw [Nat.add_mul]; omega]
    exact ih
theorem flat_len {α : Type} {enc : α → List Value} {sz : Nat} (hz : ∀ x, (enc x).length = sz) : ∀ (ls : List α), (ls.flatMap enc).length = ls.length * sz
  | [] => by simp
  | y :: ls => by rw [List.flatMap_cons, List.length_append, hz, flat_len hz ls, List.length_cons, Nat.add_mul, Nat.one_mul, Nat.add_comm]
theorem at_of {α : Type} {ls : List α} {i : Nat} (h : i < ls.length) : ∃ x, ls[i]? = some x := ⟨_, List.getElem?_eq_getElem h⟩
theorem Cls.elem {α : Type} {w : World} {g o : Nat} {enc : α → List Value} {sz : Nat} (hz : ∀ x, (enc x).length = sz) {ls : List α} {i : Nat} {x : α} (h : Cls w g o (ls.flatMap enc)) (hx : ls[i]? = some x) : Cls w g (o + i * sz) (enc x) :=
  h.sub fun _ _ hj => flat_at hz hx hj
theorem Rds.elem {α : Type} {w : World} {A : Option Addr} {n : Nat} {enc : α → List Value} {sz : Nat} (hz : ∀ x, (enc x).length = sz) {ls : List α} {i : Nat} {x : α} (h : Rds w sz A n (ls.flatMap enc)) (hx : ls[i]? = some x) (hp : 0 < sz) : Cls w (ab A) (ao A + i * sz) (enc x) := by
  have hi := (List.getElem?_eq_some_iff.1 hx).1
  have hl := h.1
  rw [flat_len hz] at hl
  have hn : 0 < n := by
    rcases Nat.eq_zero_or_pos n with e | e
    · rw [e, Nat.zero_mul] at hl
      have : ls.length * sz ≠ 0 := Nat.mul_ne_zero (by omega) (by omega)
      omega
    · exact e
  exact (h.cls hn).elem hz hx
theorem Rds.len {α : Type} {w : World} {A : Option Addr} {n : Nat} {enc : α → List Value} {sz : Nat} (hz : ∀ x, (enc x).length = sz) {ls : List α} (h : Rds w sz A n (ls.flatMap enc)) (hp : 0 < sz) : ls.length = n := by
  have hl := h.1
  rw [flat_len hz] at hl
  exact Nat.eq_of_mul_eq_mul_right hp hl
theorem Rds.addr {w : World} {A : Option Addr} {n sz : Nat} {xs : List Value} (h : Rds w sz A n xs) {i : Nat} (hi : i < n) : A = some ⟨ab A, ao A, none⟩ := h.isSome (by omega)
theorem flat_one {α : Type} {enc : α → List Value} (h : ∀ x, ∀ u ∈ enc x, u.oneCell' = true) (ls : List α) : ∀ u ∈ List.flatMap enc ls, u.oneCell' = true := fun u hu => by
  obtain ⟨x, _, hx⟩ := List.mem_flatMap.1 hu
  exact h x u hx
section
variable {P : Program} {n : Nat} {F : List (Nat × Value)} {w0 w : World} {D : Nat → Prop} {L : List HP} {ty : TypeId} {K : Value → World → Prop} {x : Operand}
end
theorem flat_set {α : Type} {enc : α → List Value} {sz : Nat} (hz : ∀ x, (enc x).length = sz) {x y : α} {f : Nat} {vs : List Value} (hp : put (enc x) f vs = enc y) (hf : f + vs.length ≤ sz) : ∀ {ls : List α} {i : Nat}, ls[i]? = some x → put (List.flatMap enc ls) (i * sz + f) vs = List.flatMap enc (ls.set i y)
  | [], _, h => by simp at h
  | z :: ls, 0, h => by
    simp only [List.getElem?_cons_zero, Option.some.injEq] at h
    subst h
    have hl := hz z
    rw [List.set_cons_zero, List.flatMap_cons, List.flatMap_cons, ← hp, Nat.zero_mul, Nat.zero_add]
    unfold put
    rw [List.take_append_of_le_length (by omega), List.drop_append_of_le_length (by omega)]
    simp only [List.append_assoc]
  | z :: ls, i + 1, h => by
    simp only [List.getElem?_cons_succ] at h
    have ih := flat_set hz hp hf h
    have hl := hz z
    rw [List.set_cons_succ, List.flatMap_cons, List.flatMap_cons, ← ih]
    have e : (i + 1) * sz + f = (enc z).length + (i * sz + f) := by rw [hl, Nat.add_mul]; omega
    rw [e]
    unfold put
    rw [List.take_length_add_append, show (enc z).length + (i * sz + f) + vs.length = (enc z).length + ((i * sz + f) + vs.length) by omega, List.drop_length_add_append]
    simp only [List.append_assoc]
section
variable {α : Type} {enc : α → List Value} {sz : Nat}
theorem flat_take (hz : ∀ x, (enc x).length = sz) : ∀ (ls : List α) (k : Nat), (List.flatMap enc ls).take (k * sz) = List.flatMap enc (ls.take k)
  | [], k => by simp
  | x :: ls, 0 => by simp
  | x :: ls, k + 1 => by
    rw [List.take_succ_cons, List.flatMap_cons, List.flatMap_cons, ← flat_take hz ls k]
    have e : (k + 1) * sz = (enc x).length + k * sz := by rw [hz, Nat.add_mul]; omega
    rw [e, List.take_length_add_append]
theorem flat_drop (hz : ∀ x, (enc x).length = sz) : ∀ (ls : List α) (k : Nat), (List.flatMap enc ls).drop (k * sz) = List.flatMap enc (ls.drop k)
  | [], k => by simp
  | x :: ls, 0 => by simp
  | x :: ls, k + 1 => by
    rw [List.drop_succ_cons, List.flatMap_cons, ← flat_drop hz ls k]
    have e : (k + 1) * sz = (enc x).length + k * sz := by rw [hz, Nat.add_mul]; omega
    rw [e, List.drop_length_add_append]
theorem Rds.cutE {w : World} {A : Option Addr} {m c lo hi : Nat} {ls : List α} (hz : ∀ x, (enc x).length = sz) (h : Rds w sz A m (List.flatMap enc ls)) (h1 : lo ≤ hi) (h2 : hi ≤ m) (hc : m ≤ c) : Rds w sz (cutA A lo sz c) (hi - lo) (List.flatMap enc (List.take (hi - lo) (List.drop lo ls))) := by
  have := h.cut h1 h2 hc
  rw [flat_drop hz, flat_take hz] at this
  exact this
theorem Rds.fromE {w : World} {A : Option Addr} {m c lo : Nat} {ls : List α} (hz : ∀ x, (enc x).length = sz) (h : Rds w sz A m (List.flatMap enc ls)) (h1 : lo ≤ m) (hc : m ≤ c) (hp : 0 < sz) : Rds w sz (cutA A lo sz c) (m - lo) (List.flatMap enc (List.drop lo ls)) := by
  have := h.cutE hz h1 (Nat.le_refl m) hc
  rw [List.take_of_length_le (by rw [List.length_drop, h.len hz hp]; exact Nat.le_refl _)] at this
  exact this
theorem Rds.toE {w : World} {A : Option Addr} {m hi : Nat} {ls : List α} (hz : ∀ x, (enc x).length = sz) (h : Rds w sz A m (List.flatMap enc ls)) (h1 : hi ≤ m) : Rds w sz A hi (List.flatMap enc (List.take hi ls)) := by
  have := h.sub (k := 0) (m := hi) (A' := A) (by omega) (fun hp => by rw [Nat.zero_mul, Nat.add_zero]; exact h.isSome (by omega))
  rw [Nat.zero_mul, List.drop_zero, flat_take hz] at this
  exact this
theorem flat_put (hz : ∀ x, (enc x).length = sz) (ls ss : List α) (lo k : Nat) (hk : k ≤ ss.length) : put (List.flatMap enc ls) (lo * sz) ((List.flatMap enc ss).take (k * sz)) = List.flatMap enc (List.take lo ls ++ (List.take k ss ++ List.drop (lo + k) ls)) := by
  have hl : ((List.flatMap enc ss).take (k * sz)).length = k * sz := by
    rw [List.length_take, flat_len hz]
    exact Nat.min_eq_left (Nat.mul_le_mul_right _ hk)
  unfold put
  rw [hl, ← Nat.add_mul, flat_take hz, flat_take hz, flat_drop hz, List.flatMap_append, List.flatMap_append, List.append_assoc]
end
end Go.Proofs.Ytcjjblkgbfaapaa
