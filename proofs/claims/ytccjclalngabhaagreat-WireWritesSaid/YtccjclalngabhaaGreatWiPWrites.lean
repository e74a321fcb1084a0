/-
  PROVED HERE: what the law WireWrites tells is true.
  Conditions: numbers of 64 bits.
-/
import Derived.Test.YtccjclalngabhaaGreatWWrites
import Derived.Test.YtccjclalngabhaaGreatWiE
namespace Go.Proofs.YtccjclalngabhaaGreat
theorem T_WireWrites {m : MsgT} (hn : nums m) : w18_WireWrites m = true := by
  have L : ∀ n, w18_WireWrites_L0 m true n = .inl () := by
    intro n
    induction n with
    | zero => rfl
    | succ n ih =>
      rw [w18_WireWrites_L0]
      simp only [bnd_eq]
      rw [enc_eq hn, check_eq hn, if_neg (by simp), if_pos rfl, if_pos rfl]
      exact ih
  unfold w18_WireWrites
  rw [live_true, bnd_eq, L]
  rfl
end Go.Proofs.YtccjclalngabhaaGreat
