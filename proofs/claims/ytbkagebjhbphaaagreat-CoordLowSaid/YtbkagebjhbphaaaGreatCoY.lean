/-
  The chapter's examples hold. Conditions: none beyond each law's own.
-/
import Derived.Test.YtbkagebjhbphaaaGreatLv
namespace Go.Proofs.YtbkagebjhbphaaaGreat
theorem BU:uy=true:=by decide+kernel
end Go.Proofs.YtbkagebjhbphaaaGreat
