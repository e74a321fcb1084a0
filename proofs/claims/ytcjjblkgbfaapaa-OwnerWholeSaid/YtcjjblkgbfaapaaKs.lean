/-
  Structs compared; arrays of cells.
  Conditions: none beyond each law's own.
-/
import Derived.Test.YtcjjblkgbfaapaaKg
import Derived.Laws.StructEq
namespace Go.Proofs.Ytcjjblkgbfaapaa
set_option linter.unusedVariables false
set_option linter.unusedSimpArgs false
open Go.RowKit
def Eqv (P : Program) (k : Nat) (t : TypeId) (x y : Value) (b : Bool) : Prop := ∀ (d : Nat) (w : World), (Op.equalIn (d + k) t x y).run P w = .ok b w
def EqF (P : Program) (k : Nat) (xs ys : Array Value) (fs : List Field) (b : Bool) : Prop := ∀ (d : Nat) (w : World), (Op.eqFields (d + k) xs ys fs).run P w = .ok b w
section
variable {P : Program} {k : Nat} {t : TypeId} {x y : Value} {xs ys : Array Value} {fs : List Field} {f : Field} {p q : Prop} [Decidable p] [Decidable q]
theorem Eqv.up {j : Nat} {b : Bool} (h : Eqv P k t x y b) (hj : k ≤ j) : Eqv P j t x y b := fun d w => by
  have := h (d + (j - k)) w
  rwa [show d + (j - k) + k = d + j by omega] at this
theorem EqF.up {j : Nat} {b : Bool} (h : EqF P k xs ys fs b) (hj : k ≤ j) : EqF P j xs ys fs b := fun d w => by
  have := h (d + (j - k)) w
  rwa [show d + (j - k) + k = d + j by omega] at this
theorem Eqv.int {ki ki' : IntKind} {a b : Int} (h : P.underlying t = some (.int ki')) : Eqv P 1 t (.int ki a) (.int ki b) (decide (a = b)) := fun d w => by
  rw [run_equalIn_int w d t ki ki' a b h]; first | done | rfl
theorem Eqv.bool {a b : Bool} (h : P.underlying t = some .bool) : Eqv P 1 t (.bool a) (.bool b) (decide (a = b)) := fun d w => by
  rw [run_equalIn_bool' w d t a b h]; cases a <;> cases b <;> rfl
theorem Eqv.string {a b : List UInt8} (h : P.underlying t = some .string) : Eqv P 1 t (.string ⟨a.toArray⟩) (.string ⟨b.toArray⟩) (decide (a = b)) := fun d w => by
  rw [run_equalIn_string w d t _ _ h, ByteArray.toList_mk, ByteArray.toList_mk, dec_eq_beq]
theorem EqF.nil : EqF P 0 xs ys [] true := fun d w => rfl
theorem EqF.cons {u v : Value} {a b : Bool} (hn : decide (f.name = "_") = false) (hu : ∀ w, (part f.type xs f.offset).run P w = .ok u w) (hv : ∀ w, (part f.type ys f.offset).run P w = .ok v w) (he : Eqv P k f.type u v a) (hr : EqF P k xs ys fs b) : EqF P k xs ys (f :: fs) (a && b) := fun d w => by
  have hn' : f.name ≠ "_" := of_decide_eq_false hn
  rw [Op.eqFields, if_pos hn']
  simp only [Sem.run_bind, hu, hv, he d, Result.andThen_ok]
  cases a
  · simp [Sem.run_pure]
  · simp only [Bool.not_true, Bool.false_eq_true, if_false, Bool.true_and]; exact hr d w
theorem EqF.dec {b : Bool} (h : EqF P k xs ys fs b) (hb : b = decide p) : EqF P k xs ys fs (decide p) := hb ▸ h
theorem Eqv.struct {b : Bool} (ht : P.underlying t = some (.struct fs.toArray)) (hp : P.stoodInHeld t = false) (h : EqF P k xs ys fs b) : Eqv P (k + 1) t (.agg xs) (.agg ys) b := fun d w => by
  have hf : P.fieldsOf t = fs.toArray := by simp [Program.fieldsOf, ht]
  have := run_equalIn_struct (P := P) w (d + k) t xs ys (by rw [hf]; exact ht) hp
  rw [show d + (k + 1) = d + k + 1 by omega, this, hf]
  exact h d w
theorem and_dec : (decide p && decide q) = decide (p ∧ q) := (Bool.decide_and p q).symm
theorem and_dec1 : (decide p && true) = decide p := Bool.and_true _
variable {n : Nat} {F : List (Nat × Value)} {w : World} {ty yt : TypeId} {xo yo : Operand} {b : Bool}
theorem Yl.eqAgg (hx : ev F xo = some (.agg xs)) (hy : ev F yo = some (.agg ys)) (hg : P.eqGuardType P.depth t = false) (hk : Nat.ble k 10000 = true) (he : Eqv P k t (.agg xs) (.agg ys) b) : Yl P n F w (.binOp .eql t xo yo yt) ty (.bool b) := fun a ha o h1 _ => by
  unfold execOp
  rw [h1]
  have hk' : k ≤ 10000 := Nat.le_of_ble_eq_true hk
  have := he (10000 - k) w
  rw [show 10000 - k + k = 10000 by omega] at this
  simp only [ha.eval hx, ha.eval hy, run_eqGuard_agg w .eql t xo yo xs ys hg, Sem.run_bind, Sem.run_pure, Result.andThen_ok, run_eql_struct, this]
theorem Yl.neAgg (hx : ev F xo = some (.agg xs)) (hy : ev F yo = some (.agg ys)) (hg : P.eqGuardType P.depth t = false) (hk : Nat.ble k 10000 = true) (he : Eqv P k t (.agg xs) (.agg ys) b) : Yl P n F w (.binOp .neq t xo yo yt) ty (.bool (!b)) := fun a ha o h1 _ => by
  unfold execOp
  rw [h1]
  have hk' : k ≤ 10000 := Nat.le_of_ble_eq_true hk
  have := he (10000 - k) w
  rw [show 10000 - k + k = 10000 by omega] at this
  simp only [ha.eval hx, ha.eval hy, run_eqGuard_agg w .neq t xo yo xs ys hg, Sem.run_bind, Sem.run_pure, Result.andThen_ok, run_neq_struct, this]
end
end Go.Proofs.Ytcjjblkgbfaapaa
