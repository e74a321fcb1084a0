/-
  Bytes as numbers.
  Conditions: none.
-/
import Derived.Test.YtcnkpjheifkgnaaGreatRcO
namespace Go.Proofs.YtcnkpjheifkgnaaGreat
theorem vX {n:Nat} (h:n≤255):∃ z:UInt8,z.toNat=n:=⟨UInt8.ofNat n,by simp only [UInt8.toNat_ofNat']; omega⟩
theorem vY (z:UInt8):z≤255:=UInt8.le_iff_toNat_le.2 (by have:=UInt8.toNat_lt z; show z.toNat≤255; omega)
end Go.Proofs.YtcnkpjheifkgnaaGreat
