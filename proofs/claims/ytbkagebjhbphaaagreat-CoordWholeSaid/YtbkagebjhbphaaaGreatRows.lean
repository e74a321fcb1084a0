/-
  No cell of these rows narrows 'for every input' (looked for: loops, veiled, ifaces, maps, wideKeys, modest, calm, conditions, laid).
  DERIVED. THE GIVEN ROWS OF THIS SEAT. 4 by the template 'for every input the law returns true; each argument reads behind the call as it read before'; 0 by the template 'total and deterministic' (their statements: YtbkagebjhbphaaaGreatTotals.lean).
  GIVEN WITH THE SEED: the statements are not yours to turn. If you find one false, say at which input.
  Laid BY PROGRAM, IN A SANDBOX (cutbox-rows.mjs): the forced cells as the released guide's own fill.sh prints them over the translation 47a7192f77474188… (all of the seat's roots in one cut). By AI agents, Wed Nov 11 2026. No macro, syntax, notation, axiom, sorry.
-/
import Derived.Test.YtbkagebjhbphaaaGreatChecked
import GoSem.Claim
import GoSem.ClaimJoined
import GoSem.ClaimMapViews
import Derived.JoinedTies
import Derived.KernelRfl
namespace Go.Proofs.YtbkagebjhbphaaaGreat
/- THE CELL 'sum', in the pinned program and in every row, IS THE sha256 OF THE DUMP (.gsa) THAT YtbkagebjhbphaaaGreatProg.lean LOADS. Nothing in Lean hashes anything: it is a label: what it is worth is what the hold of that sum in a sandbox is worth. -/
noncomputable def Tryz.pinned : Pinned := { name := "ytbkagebjhbphaaagreat", sum := "47a7192f77474188d853592e039c9ce9fed00e05f9c5b0e494e47993783fb003", checked := Tryz.checked }
namespace Rows
def none {H : Type} : Left H := { results := [], args := [] }

/-- 'sumpterlaw21.CoordOnce': WHATEVER THE INPUT: true; the input reads as it did. -/
def coordOnceSpec : ChangeSpec := { name := "coordOnce", fn := fun _ => fun
  | [d] => { results := [.lit (.bool true)], args := [d] }
  | _ => none }
def coordOnceRow : OpenClaim := { program := "ytbkagebjhbphaaagreat", sum := "47a7192f77474188d853592e039c9ce9fed00e05f9c5b0e494e47993783fb003", func := "sumpter/sumpterlaw21.CoordOnce", spec := "coordOnce", inPlace := ["internal/bytealg.abigen_runtime_cmpstring", "slices.overlaps[sumpter/api.Pair]", "slices.overlaps[sumpter/api.Decision]", "slices.overlaps[sumpter/api.Last]"], unfollowed := true, recurses := true, plainKeys := false, apart := false }
def CoordOnceSaid : Prop := coordOnceRow.holds Tryz.pinned (OpenSpec.ofChange coordOnceSpec)

/-- ITS FALSE NEIGHBOUR: 'it returns false'. Refute it at one input. -/
def coordOnceWrong : ChangeSpec := { name := "coordOnce", fn := fun _ => fun
  | [d] => { results := [.lit (.bool false)], args := [d] }
  | _ => none }
def CoordOnceWrongFalsely : Prop := coordOnceRow.holds Tryz.pinned (OpenSpec.ofChange coordOnceWrong)

/-- 'sumpterlaw21.CoordLow': WHATEVER THE INPUT: true; the input reads as it did. -/
def coordLowSpec : ChangeSpec := { name := "coordLow", fn := fun _ => fun
  | [d] => { results := [.lit (.bool true)], args := [d] }
  | _ => none }
def coordLowRow : OpenClaim := { program := "ytbkagebjhbphaaagreat", sum := "47a7192f77474188d853592e039c9ce9fed00e05f9c5b0e494e47993783fb003", func := "sumpter/sumpterlaw21.CoordLow", spec := "coordLow", inPlace := ["internal/bytealg.abigen_runtime_cmpstring", "slices.overlaps[sumpter/api.Pair]", "slices.overlaps[sumpter/api.Decision]", "slices.overlaps[sumpter/api.Last]"], unfollowed := true, recurses := true, plainKeys := false, apart := false }
def CoordLowSaid : Prop := coordLowRow.holds Tryz.pinned (OpenSpec.ofChange coordLowSpec)

/-- ITS FALSE NEIGHBOUR: 'it returns false'. Refute it at one input. -/
def coordLowWrong : ChangeSpec := { name := "coordLow", fn := fun _ => fun
  | [d] => { results := [.lit (.bool false)], args := [d] }
  | _ => none }
def CoordLowWrongFalsely : Prop := coordLowRow.holds Tryz.pinned (OpenSpec.ofChange coordLowWrong)

/-- 'sumpterlaw21.CoordAgain': WHATEVER THE INPUT: true; the input reads as it did. -/
def coordAgainSpec : ChangeSpec := { name := "coordAgain", fn := fun _ => fun
  | [d] => { results := [.lit (.bool true)], args := [d] }
  | _ => none }
def coordAgainRow : OpenClaim := { program := "ytbkagebjhbphaaagreat", sum := "47a7192f77474188d853592e039c9ce9fed00e05f9c5b0e494e47993783fb003", func := "sumpter/sumpterlaw21.CoordAgain", spec := "coordAgain", inPlace := ["internal/bytealg.abigen_runtime_cmpstring", "slices.overlaps[sumpter/api.Pair]", "slices.overlaps[sumpter/api.Decision]", "slices.overlaps[sumpter/api.Last]"], unfollowed := true, recurses := true, plainKeys := false, apart := false }
def CoordAgainSaid : Prop := coordAgainRow.holds Tryz.pinned (OpenSpec.ofChange coordAgainSpec)

/-- ITS FALSE NEIGHBOUR: 'it returns false'. Refute it at one input. -/
def coordAgainWrong : ChangeSpec := { name := "coordAgain", fn := fun _ => fun
  | [d] => { results := [.lit (.bool false)], args := [d] }
  | _ => none }
def CoordAgainWrongFalsely : Prop := coordAgainRow.holds Tryz.pinned (OpenSpec.ofChange coordAgainWrong)

/-- 'sumpterlaw21.CoordWhole': WHATEVER THE INPUT: true; the input reads as it did. -/
def coordWholeSpec : ChangeSpec := { name := "coordWhole", fn := fun _ => fun
  | [d1, d2] => { results := [.lit (.bool true)], args := [d1, d2] }
  | _ => none }
def coordWholeRow : OpenClaim := { program := "ytbkagebjhbphaaagreat", sum := "47a7192f77474188d853592e039c9ce9fed00e05f9c5b0e494e47993783fb003", func := "sumpter/sumpterlaw21.CoordWhole", spec := "coordWhole", inPlace := ["internal/bytealg.abigen_runtime_cmpstring", "slices.overlaps[sumpter/api.Pair]", "slices.overlaps[sumpter/api.Decision]", "slices.overlaps[sumpter/api.Last]"], unfollowed := true, recurses := true, plainKeys := false, apart := false }
def CoordWholeSaid : Prop := coordWholeRow.holds Tryz.pinned (OpenSpec.ofChange coordWholeSpec)

/-- ITS FALSE NEIGHBOUR: 'it returns false'. Refute it at one input. -/
def coordWholeWrong : ChangeSpec := { name := "coordWhole", fn := fun _ => fun
  | [d1, d2] => { results := [.lit (.bool false)], args := [d1, d2] }
  | _ => none }
def CoordWholeWrongFalsely : Prop := coordWholeRow.holds Tryz.pinned (OpenSpec.ofChange coordWholeWrong)

/- THE SECOND FORM. 'bulk': how many values and letters a reading holds, each counted each time it is reached (what is shared counts as often as it is met; a slice's spare places count too). A statement '..UptoSaid' is the law's where the arguments, and the package variables that the reading takes, are together of bulk at most 1048576: NARROWER than '..Said'. Prove '..Said' where nothing that the law and all that it calls make is longer than what came in: it says more and counts as full. Else prove '..UptoSaid'. A law counts once. -/
mutual
def uptoBulk {H : Type} : DataW H → Nat
  | .lit (.string bytes) => bytes.length + 1
  | .lit _ => 1
  | .nil => 1
  | .ptr d => uptoBulk d + 1
  | .slice elems spare => uptoBulkAll elems + uptoBulkAll spare + 1
  | .agg parts => uptoBulkAll parts + 1
  | .iface _ d => uptoBulk d + 1
  | .map entries => uptoBulkEntries entries + 1
  | .held _ => 1
def uptoBulkAll {H : Type} : List (DataW H) → Nat
  | [] => 0
  | d :: r => uptoBulk d + uptoBulkAll r
def uptoBulkEntries {H : Type} : List (Lit × DataW H) → Nat
  | [] => 0
  | x :: r => uptoBulkEntry x + uptoBulkEntries r
def uptoBulkEntry {H : Type} : Lit × DataW H → Nat
  | (.string bytes, d) => bytes.length + uptoBulk d + 1
  | (_, d) => uptoBulk d + 1
 end
def uptoSmall : (H : Type) → List (DataW H) → Bool := fun _ ds => decide (uptoBulkAll ds ≤ 1048576)
def OpenSpec.upto (s : _root_.Go.ChangeSpec) : _root_.Go.OpenSpec := { _root_.Go.OpenSpec.ofChange s with cond := some uptoSmall }

/-- 'sumpterlaw21.CoordOnce', WHERE WHAT IT READS IS OF BULK AT MOST 1048576: true; the input reads as it did. -/
def coordOnceUptoRow : OpenClaim := { program := "ytbkagebjhbphaaagreat", sum := "47a7192f77474188d853592e039c9ce9fed00e05f9c5b0e494e47993783fb003", func := "sumpter/sumpterlaw21.CoordOnce", spec := "coordOnce", inPlace := ["internal/bytealg.abigen_runtime_cmpstring", "slices.overlaps[sumpter/api.Pair]", "slices.overlaps[sumpter/api.Decision]", "slices.overlaps[sumpter/api.Last]"], unfollowed := true, recurses := true, plainKeys := false, apart := false, narrowed := true }
def CoordOnceUptoSaid : Prop := coordOnceUptoRow.holds Tryz.pinned (OpenSpec.upto coordOnceSpec)

/-- 'sumpterlaw21.CoordLow', WHERE WHAT IT READS IS OF BULK AT MOST 1048576: true; the input reads as it did. -/
def coordLowUptoRow : OpenClaim := { program := "ytbkagebjhbphaaagreat", sum := "47a7192f77474188d853592e039c9ce9fed00e05f9c5b0e494e47993783fb003", func := "sumpter/sumpterlaw21.CoordLow", spec := "coordLow", inPlace := ["internal/bytealg.abigen_runtime_cmpstring", "slices.overlaps[sumpter/api.Pair]", "slices.overlaps[sumpter/api.Decision]", "slices.overlaps[sumpter/api.Last]"], unfollowed := true, recurses := true, plainKeys := false, apart := false, narrowed := true }
def CoordLowUptoSaid : Prop := coordLowUptoRow.holds Tryz.pinned (OpenSpec.upto coordLowSpec)

/-- 'sumpterlaw21.CoordAgain', WHERE WHAT IT READS IS OF BULK AT MOST 1048576: true; the input reads as it did. -/
def coordAgainUptoRow : OpenClaim := { program := "ytbkagebjhbphaaagreat", sum := "47a7192f77474188d853592e039c9ce9fed00e05f9c5b0e494e47993783fb003", func := "sumpter/sumpterlaw21.CoordAgain", spec := "coordAgain", inPlace := ["internal/bytealg.abigen_runtime_cmpstring", "slices.overlaps[sumpter/api.Pair]", "slices.overlaps[sumpter/api.Decision]", "slices.overlaps[sumpter/api.Last]"], unfollowed := true, recurses := true, plainKeys := false, apart := false, narrowed := true }
def CoordAgainUptoSaid : Prop := coordAgainUptoRow.holds Tryz.pinned (OpenSpec.upto coordAgainSpec)

/-- 'sumpterlaw21.CoordWhole', WHERE WHAT IT READS IS OF BULK AT MOST 1048576: true; the input reads as it did. -/
def coordWholeUptoRow : OpenClaim := { program := "ytbkagebjhbphaaagreat", sum := "47a7192f77474188d853592e039c9ce9fed00e05f9c5b0e494e47993783fb003", func := "sumpter/sumpterlaw21.CoordWhole", spec := "coordWhole", inPlace := ["internal/bytealg.abigen_runtime_cmpstring", "slices.overlaps[sumpter/api.Pair]", "slices.overlaps[sumpter/api.Decision]", "slices.overlaps[sumpter/api.Last]"], unfollowed := true, recurses := true, plainKeys := false, apart := false, narrowed := true }
def CoordWholeUptoSaid : Prop := coordWholeUptoRow.holds Tryz.pinned (OpenSpec.upto coordWholeSpec)

end Rows
end Go.Proofs.YtbkagebjhbphaaaGreat
