/-
  Structs compared; arrays of cells.
  Conditions: none beyond each law's own.
-/
import Derived.Test.YtcnkpjheifkgnaaGreatKg
import Derived.Laws.StructEq
namespace Go.Proofs.YtcnkpjheifkgnaaGreat
set_option linter.unusedVariables false
set_option linter.unusedSimpArgs false
open Go.RowKit
def gL (P:Program) (k:Nat) (t:TypeId) (x y:Value) (b:Bool):Prop:=∀ (d:Nat) (w:World),(Op.equalIn (d+k) t x y).run P w= .ok b w
def fF (P:Program) (k:Nat) (xs ys:Array Value) (fs:List Field) (b:Bool):Prop:=∀ (d:Nat) (w:World),(Op.eqFields (d+k) xs ys fs).run P w= .ok b w
section
variable {P:Program} {k:Nat} {t:TypeId} {x y:Value} {xs ys:Array Value} {fs:List Field} {f:Field} {p q:Prop} [Decidable p] [Decidable q]
theorem gL.up {j:Nat} {b:Bool} (h:gL P k t x y b) (hj:k≤j):gL P j t x y b:=fun d w=>by
  have:=h (d+(j - k)) w
  rwa [show d+(j - k)+k=d+j by omega] at this
theorem fF.up {j:Nat} {b:Bool} (h:fF P k xs ys fs b) (hj:k≤j):fF P j xs ys fs b:=fun d w=>by
  have:=h (d+(j - k)) w
  rwa [show d+(j - k)+k=d+j by omega] at this
theorem gL.int {ki ki':IntKind} {a b:Int} (h:P.underlying t=some (.int ki')):gL P 1 t (.int ki a) (.int ki b) (decide (a=b)):=fun d w=>by
  rw [run_equalIn_int w d t ki ki' a b h]; first | done | rfl
theorem gL.bool {a b:Bool} (h:P.underlying t=some .bool):gL P 1 t (.bool a) (.bool b) (decide (a=b)):=fun d w=>by
  rw [run_equalIn_bool' w d t a b h]; cases a <;> cases b <;> rfl
theorem gL.string {a b:List UInt8} (h:P.underlying t=some .string):gL P 1 t (.string ⟨a.toArray⟩) (.string ⟨b.toArray⟩) (decide (a=b)):=fun d w=>by
  rw [run_equalIn_string w d t _ _ h,ByteArray.toList_mk,ByteArray.toList_mk,nW]
theorem fF.nil:fF P 0 xs ys [] true:=fun d w=>rfl
theorem fF.cons {u v:Value} {a b:Bool} (hn:decide (f.name= "_")=false) (hu:∀ w,(part f.type xs f.offset).run P w= .ok u w) (hv:∀ w,(part f.type ys f.offset).run P w= .ok v w) (he:gL P k f.type u v a) (hr:fF P k xs ys fs b):fF P k xs ys (f::fs) (a && b):=fun d w=>by
  have hn':f.name≠ "_" :=of_decide_eq_false hn
  rw [Op.eqFields,if_pos hn']
  simp only [Sem.run_bind,hu,hv,he d,Result.andThen_ok]
  cases a
  · simp [Sem.run_pure]
  · simp only [Bool.not_true,Bool.false_eq_true,if_false,Bool.true_and]; exact hr d w
theorem Dc {b:Bool} (h:fF P k xs ys fs b) (hb:b=decide p):fF P k xs ys fs (decide p):=hb ▸ h
theorem gL.struct {b:Bool} (ht:P.underlying t=some (.struct fs.toArray)) (hp:P.stoodInHeld t=false) (h:fF P k xs ys fs b):gL P (k+1) t (.agg xs) (.agg ys) b:=fun d w=>by
  have hf:P.fieldsOf t=fs.toArray:=by simp [Program.fieldsOf,ht]
  have:=run_equalIn_struct (P:=P) w (d+k) t xs ys (by rw [hf]; exact ht) hp
  rw [show d+(k+1)=d+k+1 by omega,this,hf]
  exact h d w
theorem fE:(decide p && decide q)=decide (p∧q):=(Bool.decide_and p q).symm
theorem lm:(decide p && true)=decide p:=Bool.and_true _
variable {n:Nat} {F:List (Nat × Value)} {w:World} {ty yt:TypeId} {xo yo:Operand} {b:Bool}
theorem DX (hx:ev F xo=some (.agg xs)) (hy:ev F yo=some (.agg ys)) (hg:P.eqGuardType P.depth t=false) (hk:Nat.ble k 10000=true) (he:gL P k t (.agg xs) (.agg ys) b):Yl P n F w (.binOp .eql t xo yo yt) ty (.bool b):=fun a ha o c _=>by
  unfold execOp
  rw [c]
  have hk':k≤10000:=EK hk
  have:=he (10000 - k) w
  rw [show 10000 - k+k=10000 by omega] at this
  simp only [ha.eval hx,ha.eval hy,run_eqGuard_agg w .eql t xo yo xs ys hg,Sem.run_bind,Sem.run_pure,Result.andThen_ok,run_eql_struct,this]
theorem Dh (hx:ev F xo=some (.agg xs)) (hy:ev F yo=some (.agg ys)) (hg:P.eqGuardType P.depth t=false) (hk:Nat.ble k 10000=true) (he:gL P k t (.agg xs) (.agg ys) b):Yl P n F w (.binOp .neq t xo yo yt) ty (.bool (!b)):=fun a ha o c _=>by
  unfold execOp
  rw [c]
  have hk':k≤10000:=EK hk
  have:=he (10000 - k) w
  rw [show 10000 - k+k=10000 by omega] at this
  simp only [ha.eval hx,ha.eval hy,run_eqGuard_agg w .neq t xo yo xs ys hg,Sem.run_bind,Sem.run_pure,Result.andThen_ok,run_neq_struct,this]
end
end Go.Proofs.YtcnkpjheifkgnaaGreat
