/-
  What a cache wants: calls through an interface, maps of short pages, the hand's way round. Conditions: none beyond each law's own.
-/
import Derived.Test.YtkekaemfokmhdaaKu
import Derived.Test.YtkekaemfokmhdaaKv
import Derived.Test.YtkekaemfokmhdaaKz
import Derived.Test.YtkekaemfokmhdaaKy
import Derived.Test.YtkekaemfokmhdaaWiX
namespace Go.Proofs.Ytkekaemfokmhdaa
set_option linter.unusedVariables false
set_option linter.unusedSimpArgs false
open Go.RowKit
section
variable {P : Program} {n : Nat} {F : List (Nat × Value)} {w0 w : World} {D : Nat → Prop} {L : List HP} {ty : TypeId} {v : Value} {K : Value → World → Prop}
/-- A call through an interface. -/
theorem Do.callI {rx : Operand} {nm : String} {f : FuncId} {args : List Operand} {vals : List Value} {t : TypeId} {u : Value} {tys : Array TypeId} {R : Value → World → Prop} (hm : ∀ (b : Array Value) W, (callMethod (.iface t u) nm b).run P W = .ok (.enter f (#[u] ++ b)) W) (hx : ev F rx = some (.iface t u)) (ha : evl F args = some vals) (hc : Calls P f (#[u] ++ vals.toArray) w (Ret R))
    (h : ∀ v w', R v w' → K v w') : Do P n F w (.call ⟨.invoke rx nm, args.toArray, tys⟩) ty K := fun a hag o h1 h2 next Q hn => by
  have e : (execOp a.eval o).run P w = .ok (.enter f (#[u] ++ vals.toArray)) w := by
    unfold execOp
    rw [h1]
    have ex : (#[Value.iface t u] ++ vals.toArray).extract 1 (#[Value.iface t u] ++ vals.toArray).size = vals.toArray := by simp
    have e0 : (#[Value.iface t u] ++ vals.toArray)[0]? = some (Value.iface t u) := by simp
    simp only [resolve, hag.eval hx, List.map_toArray, hag.evals ha, Sem.run_bind, Sem.run_pure, Result.andThen_ok, invoke, e0, ex, hm]
  rw [e, Oper.upon_enter]
  exact hc.mono fun e w' hR => by
    obtain ⟨v, rfl, hk⟩ := hR
    exact hn _ _ (h _ _ hk)
end
theorem inv_Load (g : Nat) (b : Array Value) (W : World) : (callMethod (.iface 24 (.pointer (some ⟨g, 0, none⟩))) "Load" b).run Try.prog W = .ok (.enter 26 (#[.pointer (some ⟨g, 0, none⟩)] ++ b)) W := by kernel_rfl
theorem inv_Save (g : Nat) (b : Array Value) (W : World) : (callMethod (.iface 24 (.pointer (some ⟨g, 0, none⟩))) "Save" b).run Try.prog W = .ok (.enter 36 (#[.pointer (some ⟨g, 0, none⟩)] ++ b)) W := by kernel_rfl
theorem inv_Safe (g : Nat) (b : Array Value) (W : World) : (callMethod (.iface 24 (.pointer (some ⟨g, 0, none⟩))) "Safe" b).run Try.prog W = .ok (.enter 34 (#[.pointer (some ⟨g, 0, none⟩)] ++ b)) W := by kernel_rfl
theorem inv_Force (g : Nat) (b : Array Value) (W : World) : (callMethod (.iface 24 (.pointer (some ⟨g, 0, none⟩))) "Force" b).run Try.prog W = .ok (.enter 35 (#[.pointer (some ⟨g, 0, none⟩)] ++ b)) W := by kernel_rfl
/-- pages whose texts are short -/
def PgOk (m : List (Int × List UInt8)) : Prop := ∀ p ∈ m, p.2.length ≤ 140737488351232
theorem pg_nil : PgOk [] := fun p hp => by cases hp
theorem pg_put : ∀ {m : List (Int × List UInt8)} {k : Int} {v : List UInt8}, PgOk m → v.length ≤ 140737488351232 → PgOk (mput m k v)
  | [], k, v, _, hv => fun p hp => by
    unfold mput at hp
    rw [List.mem_singleton.1 hp]; exact hv
  | (a, b) :: m, k, v, h, hv => fun p hp => by
    unfold mput at hp
    split at hp
    · rcases List.mem_cons.1 hp with e | e
      · rw [e]; exact hv
      · exact h p (.tail _ e)
    · rcases List.mem_cons.1 hp with e | e
      · rw [e]; exact h (a, b) (.head _)
      · exact pg_put (fun q hq => h q (.tail _ hq)) hv p e
theorem pg_get {m : List (Int × List UInt8)} {k : Int} {o : Option (List UInt8)} (h : PgOk m) (ho : mget m k = o) : (Option.getD o []).length ≤ 140737488351232 := by
  induction m with
  | nil => rw [← ho]; exact Nat.zero_le _
  | cons a m ih =>
    obtain ⟨a, b⟩ := a
    unfold mget at ho
    split at ho
    · rw [← ho]; exact h (a, b) (.head _)
    · exact ih (fun q hq => h q (.tail _ hq)) ho
end Go.Proofs.Ytkekaemfokmhdaa
