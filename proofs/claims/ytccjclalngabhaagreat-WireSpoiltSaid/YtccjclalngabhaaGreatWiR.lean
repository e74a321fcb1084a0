/-
  Messages read: the program's reader and the document's go side by side.
  Conditions: none beyond each law's own.
-/
import Derived.Test.YtccjclalngabhaaGreatWiN
import Derived.Test.YtccjclalngabhaaGreatWf
import Derived.Test.YtccjclalngabhaaGreatWiD
import Derived.Test.YtccjclalngabhaaGreatWu
namespace Go.Proofs.YtccjclalngabhaaGreat
set_option linter.unusedVariables false
set_option linter.unusedSimpArgs false
def rel (p : ReaderT) (q : RT) : Prop := p.xerrno = q.xE ∧ (p.xerrno = 0 → p.xrest.ls = q.xB.ls) ∧ (¬ p.xerrno = 0 → p.xrest.ls = [])
end Go.Proofs.YtccjclalngabhaaGreat
