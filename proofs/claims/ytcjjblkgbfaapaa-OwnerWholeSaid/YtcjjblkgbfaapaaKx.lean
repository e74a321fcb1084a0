/-
  Steps of walks in fewer words: what can be looked up is looked up; a value's type that can't vary is not said.
  Conditions: none beyond each law's own.
-/
import Derived.Test.YtcjjblkgbfaapaaKq
namespace Go.Proofs.Ytcjjblkgbfaapaa
set_option linter.unusedVariables false
set_option linter.unusedSimpArgs false
open Go.RowKit
theorem row_le2 {A : Option Addr} {m c sz : Nat} {xs : List Value} {t : TypeId} (w' : World) (h : Nat → Option Obj) (hr : row A m c xs t sz h) (_ : ∀ k o, h k = some o → w'.heap[k]? = some o) : m ≤ c ∧ m ≤ 9223372036854775807 := by
  obtain ⟨_, hr⟩ := hr
  rcases hr with ⟨_, h0, h1⟩ | ⟨g, cur, fz, _, _, h1, h2, _⟩
  · omega
  · unfold maxLen at h2; omega
section
variable {P : Program} {n : Nat} {F : List (Nat × Value)} {w w0 : World} {D : Nat → Prop} {L : List HP} {op : Op} {ty : TypeId} {ops : Array Oper} {rest : List Oper} {Q : Exit → Act → World → Prop} {pos : String} {aft : Array Edge} {d : Nat}
theorem Kz (v : Value) (h : WL P ops Q rest n ((d, v) :: F) w) (hd : Nat.blt d n = true := by exact rfl) (hk : known F op.operands.toList = true := by exact rfl) (hs : nosel op = true := by exact rfl)
    (hr : ∀ W, (execOp (rho F) ⟨none, op, ty, "", #[], none⟩).run P W = .ok (.value v) W := by intro _; kernel_rfl) : WL P ops Q (⟨some d, op, ty, pos, aft, none⟩ :: rest) n F w := Kn hd hk hs hr h
theorem Gz (v : Value) {j t : Nat} {b b' : Bool} (hb : b' = b) (h : WL P ops Q rest n ((d, v) :: F) w) (hj : (ops[j]?).bind (·.dst) = some t := by exact rfl) (hv : look F t = some (.bool b') := by exact rfl) (hd : Nat.blt d n = true := by exact rfl)
    (hk : known F op.operands.toList = true := by exact rfl) (hs : nosel op = true := by exact rfl) (hr : ∀ W, (execOp (rho F) ⟨none, op, ty, "", #[], none⟩).run P W = .ok (.value v) W := by intro _; kernel_rfl) :
    WL P ops Q (⟨some d, op, ty, pos, aft, some (j, b)⟩ :: rest) n F w := WL.valG hj hv hb hd (Yl.kern hk hs hr) h
theorem Sz {j t : Nat} {b b' : Bool} (hb : b' = !b) (h : WL P ops Q rest n ((d, undef) :: F) w) (hj : (ops[j]?).bind (·.dst) = some t := by exact rfl) (hv : look F t = some (.bool b') := by exact rfl) (hd : Nat.blt d n = true := by exact rfl) :
    WL P ops Q (⟨some d, op, ty, pos, aft, some (j, b)⟩ :: rest) n F w := WL.skipG hj hv hb hd h
theorem Lz (v : Value) {x : Operand} {T : TypeId} {g o : Nat} {cs : List Value} {t : TypeId} (H : Own w0 D w L) (i : Nat) (ha : ∀ W, (isAgg T).run P W = .ok false W) (h : WL P ops Q rest n ((d, v) :: F) w)
    (hi : L[i]? = some (blk g cs t) := by exact rfl) (hx : ev F x = some (.pointer (some ⟨g, o, none⟩)) := by exact rfl) (hv : cs[o]? = some v := by exact rfl) (hd : Nat.blt d n = true := by exact rfl) :
    WL P ops Q (⟨some d, .load T x, ty, pos, aft, none⟩ :: rest) n F w := WL.val hd (Yl.load hx (Lds.one ha (Cls.of (H.cls hi) hv))) h
theorem Gl (v : Value) {x : Operand} {T : TypeId} {g o : Nat} {cs : List Value} {t : TypeId} {j q : Nat} {b b' : Bool} (hb : b' = b) (H : Own w0 D w L) (i : Nat) (ha : ∀ W, (isAgg T).run P W = .ok false W) (h : WL P ops Q rest n ((d, v) :: F) w)
    (hi : L[i]? = some (blk g cs t) := by exact rfl) (hx : ev F x = some (.pointer (some ⟨g, o, none⟩)) := by exact rfl) (hv : cs[o]? = some v := by exact rfl) (hj : (ops[j]?).bind (·.dst) = some q := by exact rfl) (hl : look F q = some (.bool b') := by exact rfl) (hd : Nat.blt d n = true := by exact rfl) :
    WL P ops Q (⟨some d, .load T x, ty, pos, aft, some (j, b)⟩ :: rest) n F w := WL.valG hj hl hb hd (Yl.load hx (Lds.one ha (Cls.of (H.cls hi) hv))) h
theorem La (cs : List Value) {x : Operand} {T : TypeId} {g o : Nat} {cs' : List Value} {t : TypeId} (H : Own w0 D w L) (i : Nat) (ha : ∀ W, (isAgg T).run P W = .ok true W) (hS : ∀ W, (sizeOf T).run P W = .ok cs.length W) (h : WL P ops Q rest n ((d, .agg cs.toArray) :: F) w)
    (hi : L[i]? = some (blk g cs' t) := by exact rfl) (hx : ev F x = some (.pointer (some ⟨g, o, none⟩)) := by exact rfl) (hv : (cs'.drop o).take cs.length = cs := by exact rfl) (hd : Nat.blt d n = true := by exact rfl) :
    WL P ops Q (⟨some d, .load T x, ty, pos, aft, none⟩ :: rest) n F w := WL.val hd (Yl.load hx (Lds.agg ha hS (by have := (H.cls hi).lit (k := o) hv; rwa [Nat.zero_add] at this))) h
end
section
variable {α γ : Type}
end
theorem SubS.mem {α : Type} {sz : Nat} {A : Option Addr} {c : Nat} {l : List α} {A' : Option Addr} {c' : Nat} {l' : List α} {x : α} (h : SubS sz A c l A' c' l') (hx : x ∈ l') : x ∈ l := by
  induction h with
  | nil => cases hx
  | refl _ => exact hx
  | cut _ _ ih => exact ih (List.mem_of_mem_drop hx)
end Go.Proofs.Ytcjjblkgbfaapaa
