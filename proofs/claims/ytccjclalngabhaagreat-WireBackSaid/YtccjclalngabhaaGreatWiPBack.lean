/-
  WireBack of its arguments' values: what was written is read as it was; what is read is written as these bytes.
  Conditions: numbers of 64 bits.
-/
import Derived.Test.YtccjclalngabhaaGreatWiH
import Derived.Test.YtccjclalngabhaaGreatWiE
import Derived.Test.YtccjclalngabhaaGreatWBack
namespace Go.Proofs.YtccjclalngabhaaGreat
set_option linter.unusedVariables false
set_option linter.unusedSimpArgs false
theorem T_WireBack {m : MsgT} (hn : nums m) (b : List UInt8) : w18_WireBack m b = true := by
  unfold w18_WireBack
  rw [live_true, bnd_eq]
  by_cases h1 : ((List.length b : Nat) : Int) > 100000
  · rw [if_pos h1]
  rw [if_neg h1]
  simp only [bnd_eq]
  have hB : (if (wire_Decode b).2 = 0 then if True then if (wire_Encode (wire_Decode b).1).2 = 0 then decide ((wire_Encode (wire_Decode b).1).1 = b) else false else false else true) = true := by
    by_cases hd : (wire_Decode b).2 = 0
    · rw [if_pos hd, dec_b hd, if_pos trivial, if_pos rfl]
      exact decide_eq_true rfl
    · rw [if_neg hd]
  by_cases hc : wire_Check m = 0
  · obtain ⟨fs, hm⟩ := may_of hn hc
    obtain ⟨d1, d2, d3⟩ := dec_f hn hc hm
    rw [if_pos hc, d1, if_pos d2, if_pos rfl, same_r, if_pos rfl, if_neg (by omega)]
    exact hB
  · rw [if_neg hc]
    exact hB
end Go.Proofs.YtccjclalngabhaaGreat
