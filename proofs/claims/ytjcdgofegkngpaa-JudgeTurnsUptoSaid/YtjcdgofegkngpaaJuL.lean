/-
  The chapter's examples hold.
  Conditions: none.
-/
import Derived.Test.YtjcdgofegkngpaaJl
import Derived.Test.YtjcdgofegkngpaaJuN
import Derived.Test.YtjcdgofegkngpaaOpQ
namespace Go.Proofs.Ytjcdgofegkngpaa
set_option maxRecDepth 100000 in
theorem live_true : w23_live = true := by decide +kernel
end Go.Proofs.Ytjcdgofegkngpaa
