/-
  No cell of these rows narrows 'for every input' (looked for: loops, veiled, ifaces, maps, wideKeys, modest, calm, conditions, laid).
  DERIVED. THE GIVEN ROWS OF THIS SEAT. 5 by the template 'for every input the law returns true; each argument reads behind the call as it read before'; 0 by the template 'total and deterministic' (their statements: YticaheijlapllaaTotals.lean).
  GIVEN WITH THE SEED: the statements are not yours to turn. If you find one false, say at which input.
  Laid BY PROGRAM, IN A SANDBOX (cutbox-rows.mjs): the forced cells as the released guide's own fill.sh prints them over the translation 4a3cc7addc3e92a9… (all of the seat's roots in one cut). By AI agents, Wed Nov 11 2026. No macro, syntax, notation, axiom, sorry.
-/
import Derived.Test.YticaheijlapllaaChecked
import GoSem.Claim
import GoSem.ClaimJoined
import GoSem.ClaimMapViews
import Derived.JoinedTies
import Derived.KernelRfl
namespace Go.Proofs.Yticaheijlapllaa
/- THE CELL 'sum', in the pinned program and in every row, IS THE sha256 OF THE DUMP (.gsa) THAT YticaheijlapllaaProg.lean LOADS. Nothing in Lean hashes anything: it is a label: what it is worth is what the hold of that sum in a sandbox is worth. -/
noncomputable def Try.pinned : Pinned := { name := "yticaheijlapllaa", sum := "4a3cc7addc3e92a97391d0ec9a43e769a97a2f98af26ff4414a1cb2d8fecb56c", checked := Try.checked }
namespace Rows
def none {H : Type} : Left H := { results := [], args := [] }

/-- 'sumpterlaw03.TupleJoins': WHATEVER THE INPUT: true; the input reads as it did. -/
def tupleJoinsSpec : ChangeSpec := { name := "tupleJoins", fn := fun _ => fun
  | [d1, d2] => { results := [.lit (.bool true)], args := [d1, d2] }
  | _ => none }
def tupleJoinsRow : OpenClaim := { program := "yticaheijlapllaa", sum := "4a3cc7addc3e92a97391d0ec9a43e769a97a2f98af26ff4414a1cb2d8fecb56c", func := "sumpter/sumpterlaw03.TupleJoins", spec := "tupleJoins", unfollowed := true, recurses := true, apart := false }
def TupleJoinsSaid : Prop := tupleJoinsRow.holds Try.pinned (OpenSpec.ofChange tupleJoinsSpec)

/-- ITS FALSE NEIGHBOUR: 'it returns false'. Refute it at one input. -/
def tupleJoinsWrong : ChangeSpec := { name := "tupleJoins", fn := fun _ => fun
  | [d1, d2] => { results := [.lit (.bool false)], args := [d1, d2] }
  | _ => none }
def TupleJoinsWrongFalsely : Prop := tupleJoinsRow.holds Try.pinned (OpenSpec.ofChange tupleJoinsWrong)

/-- 'sumpterlaw03.TupleParts': WHATEVER THE INPUT: true; the input reads as it did. -/
def tuplePartsSpec : ChangeSpec := { name := "tupleParts", fn := fun _ => fun
  | [d] => { results := [.lit (.bool true)], args := [d] }
  | _ => none }
def tuplePartsRow : OpenClaim := { program := "yticaheijlapllaa", sum := "4a3cc7addc3e92a97391d0ec9a43e769a97a2f98af26ff4414a1cb2d8fecb56c", func := "sumpter/sumpterlaw03.TupleParts", spec := "tupleParts", unfollowed := true, recurses := true, apart := false }
def TuplePartsSaid : Prop := tuplePartsRow.holds Try.pinned (OpenSpec.ofChange tuplePartsSpec)

/-- ITS FALSE NEIGHBOUR: 'it returns false'. Refute it at one input. -/
def tuplePartsWrong : ChangeSpec := { name := "tupleParts", fn := fun _ => fun
  | [d] => { results := [.lit (.bool false)], args := [d] }
  | _ => none }
def TuplePartsWrongFalsely : Prop := tuplePartsRow.holds Try.pinned (OpenSpec.ofChange tuplePartsWrong)

/-- 'sumpterlaw03.TupleOrder': WHATEVER THE INPUT: true; the input reads as it did. -/
def tupleOrderSpec : ChangeSpec := { name := "tupleOrder", fn := fun _ => fun
  | [d1, d2] => { results := [.lit (.bool true)], args := [d1, d2] }
  | _ => none }
def tupleOrderRow : OpenClaim := { program := "yticaheijlapllaa", sum := "4a3cc7addc3e92a97391d0ec9a43e769a97a2f98af26ff4414a1cb2d8fecb56c", func := "sumpter/sumpterlaw03.TupleOrder", spec := "tupleOrder", unfollowed := true, recurses := true, apart := false }
def TupleOrderSaid : Prop := tupleOrderRow.holds Try.pinned (OpenSpec.ofChange tupleOrderSpec)

/-- ITS FALSE NEIGHBOUR: 'it returns false'. Refute it at one input. -/
def tupleOrderWrong : ChangeSpec := { name := "tupleOrder", fn := fun _ => fun
  | [d1, d2] => { results := [.lit (.bool false)], args := [d1, d2] }
  | _ => none }
def TupleOrderWrongFalsely : Prop := tupleOrderRow.holds Try.pinned (OpenSpec.ofChange tupleOrderWrong)

/-- 'sumpterlaw03.TupleCompare': WHATEVER THE INPUT: true; the input reads as it did. -/
def tupleCompareSpec : ChangeSpec := { name := "tupleCompare", fn := fun _ => fun
  | [d1, d2, d3] => { results := [.lit (.bool true)], args := [d1, d2, d3] }
  | _ => none }
def tupleCompareRow : OpenClaim := { program := "yticaheijlapllaa", sum := "4a3cc7addc3e92a97391d0ec9a43e769a97a2f98af26ff4414a1cb2d8fecb56c", func := "sumpter/sumpterlaw03.TupleCompare", spec := "tupleCompare", unfollowed := true, recurses := true, apart := false }
def TupleCompareSaid : Prop := tupleCompareRow.holds Try.pinned (OpenSpec.ofChange tupleCompareSpec)

/-- ITS FALSE NEIGHBOUR: 'it returns false'. Refute it at one input. -/
def tupleCompareWrong : ChangeSpec := { name := "tupleCompare", fn := fun _ => fun
  | [d1, d2, d3] => { results := [.lit (.bool false)], args := [d1, d2, d3] }
  | _ => none }
def TupleCompareWrongFalsely : Prop := tupleCompareRow.holds Try.pinned (OpenSpec.ofChange tupleCompareWrong)

/-- 'sumpterlaw03.TupleMore': WHATEVER THE INPUT: true; the input reads as it did. -/
def tupleMoreSpec : ChangeSpec := { name := "tupleMore", fn := fun _ => fun
  | [d1, d2] => { results := [.lit (.bool true)], args := [d1, d2] }
  | _ => none }
def tupleMoreRow : OpenClaim := { program := "yticaheijlapllaa", sum := "4a3cc7addc3e92a97391d0ec9a43e769a97a2f98af26ff4414a1cb2d8fecb56c", func := "sumpter/sumpterlaw03.TupleMore", spec := "tupleMore", unfollowed := true, recurses := true, apart := false }
def TupleMoreSaid : Prop := tupleMoreRow.holds Try.pinned (OpenSpec.ofChange tupleMoreSpec)

/-- ITS FALSE NEIGHBOUR: 'it returns false'. Refute it at one input. -/
def tupleMoreWrong : ChangeSpec := { name := "tupleMore", fn := fun _ => fun
  | [d1, d2] => { results := [.lit (.bool false)], args := [d1, d2] }
  | _ => none }
def TupleMoreWrongFalsely : Prop := tupleMoreRow.holds Try.pinned (OpenSpec.ofChange tupleMoreWrong)

/- THE SECOND FORM. 'bulk': how many values and letters a reading holds, each counted each time it is reached (what is shared counts as often as it is met; a slice's spare places count too). A statement '..UptoSaid' is the law's where the arguments, and the package variables that the reading takes, are together of bulk at most 1048576: NARROWER than '..Said'. Prove '..Said' where nothing that the law and all that it calls make is longer than what came in: it says more and counts as full. Else prove '..UptoSaid'. A law counts once. -/
mutual
def uptoBulk {H : Type} : DataW H → Nat
  | .lit (.string bytes) => bytes.length + 1
  | .lit _ => 1
  | .nil => 1
  | .ptr d => uptoBulk d + 1
  | .slice elems spare => uptoBulkAll elems + uptoBulkAll spare + 1
  | .agg parts => uptoBulkAll parts + 1
  | .iface _ d => uptoBulk d + 1
  | .map entries => uptoBulkEntries entries + 1
  | .held _ => 1
def uptoBulkAll {H : Type} : List (DataW H) → Nat
  | [] => 0
  | d :: r => uptoBulk d + uptoBulkAll r
def uptoBulkEntries {H : Type} : List (Lit × DataW H) → Nat
  | [] => 0
  | x :: r => uptoBulkEntry x + uptoBulkEntries r
def uptoBulkEntry {H : Type} : Lit × DataW H → Nat
  | (.string bytes, d) => bytes.length + uptoBulk d + 1
  | (_, d) => uptoBulk d + 1
 end
def uptoSmall : (H : Type) → List (DataW H) → Bool := fun _ ds => decide (uptoBulkAll ds ≤ 1048576)
def OpenSpec.upto (s : _root_.Go.ChangeSpec) : _root_.Go.OpenSpec := { _root_.Go.OpenSpec.ofChange s with cond := some uptoSmall }

/-- 'sumpterlaw03.TupleJoins', WHERE WHAT IT READS IS OF BULK AT MOST 1048576: true; the input reads as it did. -/
def tupleJoinsUptoRow : OpenClaim := { program := "yticaheijlapllaa", sum := "4a3cc7addc3e92a97391d0ec9a43e769a97a2f98af26ff4414a1cb2d8fecb56c", func := "sumpter/sumpterlaw03.TupleJoins", spec := "tupleJoins", unfollowed := true, recurses := true, apart := false, narrowed := true }
def TupleJoinsUptoSaid : Prop := tupleJoinsUptoRow.holds Try.pinned (OpenSpec.upto tupleJoinsSpec)

/-- 'sumpterlaw03.TupleParts', WHERE WHAT IT READS IS OF BULK AT MOST 1048576: true; the input reads as it did. -/
def tuplePartsUptoRow : OpenClaim := { program := "yticaheijlapllaa", sum := "4a3cc7addc3e92a97391d0ec9a43e769a97a2f98af26ff4414a1cb2d8fecb56c", func := "sumpter/sumpterlaw03.TupleParts", spec := "tupleParts", unfollowed := true, recurses := true, apart := false, narrowed := true }
def TuplePartsUptoSaid : Prop := tuplePartsUptoRow.holds Try.pinned (OpenSpec.upto tuplePartsSpec)

/-- 'sumpterlaw03.TupleOrder', WHERE WHAT IT READS IS OF BULK AT MOST 1048576: true; the input reads as it did. -/
def tupleOrderUptoRow : OpenClaim := { program := "yticaheijlapllaa", sum := "4a3cc7addc3e92a97391d0ec9a43e769a97a2f98af26ff4414a1cb2d8fecb56c", func := "sumpter/sumpterlaw03.TupleOrder", spec := "tupleOrder", unfollowed := true, recurses := true, apart := false, narrowed := true }
def TupleOrderUptoSaid : Prop := tupleOrderUptoRow.holds Try.pinned (OpenSpec.upto tupleOrderSpec)

/-- 'sumpterlaw03.TupleCompare', WHERE WHAT IT READS IS OF BULK AT MOST 1048576: true; the input reads as it did. -/
def tupleCompareUptoRow : OpenClaim := { program := "yticaheijlapllaa", sum := "4a3cc7addc3e92a97391d0ec9a43e769a97a2f98af26ff4414a1cb2d8fecb56c", func := "sumpter/sumpterlaw03.TupleCompare", spec := "tupleCompare", unfollowed := true, recurses := true, apart := false, narrowed := true }
def TupleCompareUptoSaid : Prop := tupleCompareUptoRow.holds Try.pinned (OpenSpec.upto tupleCompareSpec)

/-- 'sumpterlaw03.TupleMore', WHERE WHAT IT READS IS OF BULK AT MOST 1048576: true; the input reads as it did. -/
def tupleMoreUptoRow : OpenClaim := { program := "yticaheijlapllaa", sum := "4a3cc7addc3e92a97391d0ec9a43e769a97a2f98af26ff4414a1cb2d8fecb56c", func := "sumpter/sumpterlaw03.TupleMore", spec := "tupleMore", unfollowed := true, recurses := true, apart := false, narrowed := true }
def TupleMoreUptoSaid : Prop := tupleMoreUptoRow.holds Try.pinned (OpenSpec.upto tupleMoreSpec)

end Rows
end Go.Proofs.Yticaheijlapllaa
