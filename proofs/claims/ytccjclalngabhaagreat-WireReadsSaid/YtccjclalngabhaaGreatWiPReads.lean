/-
  PROVED HERE: what the law WireReads tells is true.
  Conditions: none.
-/
import Derived.Test.YtccjclalngabhaaGreatWReads
import Derived.Test.YtccjclalngabhaaGreatWiE
namespace Go.Proofs.YtccjclalngabhaaGreat
theorem tT (l:List UInt8) (r:Bool):∀ n,fu l r n= .inl ()
  | 0=>rfl
  | n+1=>by
    rw [fu]
    simp only [aT,wX,if_true,xg]
    exact tT l r n
theorem sW (l:List UInt8):mJ l=true:=by
  unfold mJ
  rw [uS]
  simp only [aT,tT,lp]
  split <;> rfl
end Go.Proofs.YtccjclalngabhaaGreat
