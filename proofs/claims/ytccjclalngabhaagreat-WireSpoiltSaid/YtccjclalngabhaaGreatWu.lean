/-
 wire: the document's answer, what is read.
-/
import Derived.Test.YtccjclalngabhaaGreatWs
namespace Go.Proofs.YtccjclalngabhaaGreat
open Go.RowKit
set_option linter.unusedVariables false
set_option linter.unusedSectionVars false
set_option linter.unusedSimpArgs false
def r01_ReadNum_L1 (l0 : List UInt8) (k24 : Nat) : Nat → Nat → Int → Nat
  | 0, k43, z44 => default
  | q45 + 1, k43, z44 => if z44 ≥ 0 then bnd (List.getD l0 (Int.toNat z44) default) fun yx62 => r01_ReadNum_L1 l0 k24 q45 (Int.toNat (IntKind.u64.wrap (((Int.toNat (IntKind.u64.wrap (((k43 : Nat) : Int) * 128)) : Nat) : Int) + ((yx62.toNat % 128 : Nat) : Int)))) (z44 - 1) else k43
def r01_ReadNum_L0 (l0 : List UInt8) : List UInt8 → Nat → Unit ⊕ (Nat × Int × Int)
  | [], k24 => Sum.inl ()
  | x37 :: q25, k24 => if ((k24 : Nat) : Int) < 10 then if ((x37.toNat : Nat) : Int) ≥ 128 then r01_ReadNum_L0 l0 q25 (k24 + 1) else bnd (r01_ReadNum_L1 l0 k24 ((Int.toNat (((k24 : Nat) : Int) + 1)) + 1) 0 ((k24 : Nat) : Int)) fun sLrJjLstfL => bnd (r01_Num sLrJjLstfL) fun yr74 => if yr74 ≠ (List.take (k24 + 1) l0) then Sum.inr (0, 0, 11) else Sum.inr (sLrJjLstfL, ((k24 + 1 : Nat) : Int), 0) else Sum.inl ()
def r01_ReadNum (l0 : List UInt8) : Nat × Int × Int :=
 lp (lpS (r01_ReadNum_L0 l0 l0 0) fun _ => Sum.inl ()) fun _ => if ((l0.length : Nat) : Int) ≥ 10 then (0, 0, 11) else (0, 0, 10)
end Go.Proofs.YtccjclalngabhaaGreat
