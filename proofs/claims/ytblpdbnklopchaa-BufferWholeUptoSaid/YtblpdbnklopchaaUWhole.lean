/-
  buffer: the law BufferWhole, of its arguments' values.
-/
import Derived.Test.YtblpdbnklopchaaBuPWhole
namespace Go.Proofs.Ytblpdbnklopchaa
open Go.RowKit
set_option linter.unusedVariables false
set_option linter.unusedSectionVars false
set_option linter.unusedSimpArgs false

theorem W_BufferWhole (w : World) (a0 : Sv PairD) (ha0 : SvOk w 2 32 PairD.cells (PairD.Ok w) a0) (a1 : Sv EntryD) (ha1 : SvOk w 7 88 EntryD.cells (EntryD.Ok w) a1) (a2 : Sv (List UInt8)) (ha2 : SvOk w 1 16 eS (fun s => s.length ≤ 140737488351232) a2) (hb : bk a0 + bk a1 + bk a2 ≤ 1048576) :
    Calls Try.prog 4 #[.slice a0.A a0.ls.length a0.c, .slice a1.A a1.ls.length a1.c, .slice a2.A a2.ls.length a2.c] w fun e w' => e = .returned (.bool true) ∧ Below w.heap.size w w' :=
  (w12_BufferWhole_ok w (fun _ : Nat => False) a0.A a0.ls.length a0.c a0.ls a1.A a1.ls.length a1.c a1.ls a2.A a2.ls.length a2.c a2.ls true (Own.start w) (Rds.ro ha0.2.2.1 (by decide)) rfl (by have := ha0.1; have := ha0.2.1; omega) (Rds.ro ha1.2.2.1 (by decide)) rfl (by have := ha1.1; have := ha1.2.1; omega) (Rds.ro ha2.2.2.1 (by decide)) rfl (by have := ha2.1; have := ha2.2.1; omega) ha2.1 (by have := ha0.1; have := ha0.2.1; omega) (by have := ha1.1; have := ha1.2.1; omega) (by have := ha2.1; have := ha2.2.1; omega) (small_of hb) (T_BufferWhole a0.ls a1.ls a2.ls)).mono fun e w' ⟨v, he, hv, H⟩ => ⟨by rw [he, hv], H.below⟩
end Go.Proofs.Ytblpdbnklopchaa
