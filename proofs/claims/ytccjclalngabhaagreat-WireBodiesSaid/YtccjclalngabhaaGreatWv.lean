/-
  wire: the document's answer, messages of bytes.
-/
import Derived.Test.YtccjclalngabhaaGreatWiD
import Derived.Test.YtccjclalngabhaaGreatWu
namespace Go.Proofs.YtccjclalngabhaaGreat
open Go.RowKit
set_option linter.unusedVariables false
set_option linter.unusedSectionVars false
set_option linter.unusedSimpArgs false
def r18_R_msg_L0 (r35 : Int) (r100 : Int) (r120 : Int) : List UInt8 → Int → Int → Nat → Nat → Nat → Nat → Nat → Nat → Nat → Nat → Nat → Bool → List UInt8 → List UInt8 → List OpD → List ResultT → List OwnerD → List UInt8 → Int → Nat × Nat × Nat × Nat × Nat × (List ResultT) × Int × Int × Nat × Nat × Nat × Nat × Bool × (List UInt8) × (List UInt8) × (List OpD) × (List OwnerD) × (List UInt8) × Int
  | [], z154, z155, k156, k157, k158, k159, k160, k161, k162, k163, k164, b165, s166, s167, l170, l173, l177, l180, z181 => (k156, k157, k158, k159, k160, l173, z154, z155, k161, k162, k163, k164, b165, s166, s167, l170, l177, l180, z181)
  | x209 :: q182, z154, z155, k156, k157, k158, k159, k160, k161, k162, k163, k164, b165, s166, s167, l170, l173, l177, l180, z181 => if ((x209.toNat : Nat) : Int) = 99 then bnd (r18_R_Byte (RT.mk (Ll.mk l180) z181)) fun yr219 => r18_R_msg_L0 r35 r100 r120 q182 yr219.1 z155 k156 k157 k158 k159 k160 k161 k162 k163 k164 b165 s166 s167 l170 l173 l177 yr219.2.xB.ls yr219.2.xE else if ((x209.toNat : Nat) : Int) = 112 then bnd (r18_R_Byte (RT.mk (Ll.mk l180) z181)) fun yr241 => r18_R_msg_L0 r35 r100 r120 q182 z154 yr241.1 k156 k157 k158 k159 k160 k161 k162 k163 k164 b165 s166 s167 l170 l173 l177 yr241.2.xB.ls yr241.2.xE else if ((x209.toNat : Nat) : Int) = 102 then bnd (r18_R_Flag (RT.mk (Ll.mk l180) z181)) fun yr263 => r18_R_msg_L0 r35 r100 r120 q182 z154 z155 k156 k157 k158 k159 k160 k161 k162 k163 k164 yr263.1 s166 s167 l170 l173 l177 yr263.2.xB.ls yr263.2.xE else if ((x209.toNat : Nat) : Int) = 114 then bnd (r18_R_Text (RT.mk (Ll.mk l180) z181)) fun yr284 => bnd (r18_R_Text yr284.2) fun yr303 => r18_R_msg_L0 r35 r100 r120 q182 z154 z155 k156 k157 k158 k159 k160 k161 k162 k163 k164 b165 yr284.1 yr303.1 l170 l173 l177 yr303.2.xB.ls yr303.2.xE else if ((x209.toNat : Nat) : Int) = 111 then bnd (r18_R_Ops (RT.mk (Ll.mk l180) z181)) fun yr324 => r18_R_msg_L0 r35 r100 r120 q182 z154 z155 k156 k157 k158 k159 k160 k161 k162 k163 k164 b165 s166 s167 yr324.1 l173 l177 yr324.2.xB.ls yr324.2.xE else if ((x209.toNat : Nat) : Int) = 115 then bnd (r18_R_Res (RT.mk (Ll.mk l180) z181)) fun yr349 => r18_R_msg_L0 r35 r100 r120 q182 z154 z155 k156 k157 k158 k159 k160 k161 k162 k163 k164 b165 s166 s167 l170 yr349.1 l177 yr349.2.xB.ls yr349.2.xE else if ((x209.toNat : Nat) : Int) = 119 then bnd (r18_R_Owners (RT.mk (Ll.mk l180) z181)) fun yr377 => r18_R_msg_L0 r35 r100 r120 q182 z154 z155 k156 k157 k158 k159 k160 k161 k162 k163 k164 b165 s166 s167 l170 l173 yr377.1 yr377.2.xB.ls yr377.2.xE else bnd (r18_R_Num (RT.mk (Ll.mk l180) z181)) fun yr401 => if ((x209.toNat : Nat) : Int) = 113 then r18_R_msg_L0 r35 r100 r120 q182 z154 z155 yr401.1 k157 k158 k159 k160 k161 k162 k163 k164 b165 s166 s167 l170 l173 l177 yr401.2.xB.ls yr401.2.xE else if ((x209.toNat : Nat) : Int) = 98 then r18_R_msg_L0 r35 r100 r120 q182 z154 z155 k156 yr401.1 k158 k159 k160 k161 k162 k163 k164 b165 s166 s167 l170 l173 l177 yr401.2.xB.ls yr401.2.xE else if ((x209.toNat : Nat) : Int) = 116 then r18_R_msg_L0 r35 r100 r120 q182 z154 z155 k156 k157 yr401.1 k159 k160 k161 k162 k163 k164 b165 s166 s167 l170 l173 l177 yr401.2.xB.ls yr401.2.xE else if ((x209.toNat : Nat) : Int) = 108 then r18_R_msg_L0 r35 r100 r120 q182 z154 z155 k156 k157 k158 yr401.1 k160 k161 k162 k163 k164 b165 s166 s167 l170 l173 l177 yr401.2.xB.ls yr401.2.xE else if ((x209.toNat : Nat) : Int) = 118 then r18_R_msg_L0 r35 r100 r120 q182 z154 z155 k156 k157 k158 k159 yr401.1 k161 k162 k163 k164 b165 s166 s167 l170 l173 l177 yr401.2.xB.ls yr401.2.xE else if ((x209.toNat : Nat) : Int) = 101 then r18_R_msg_L0 r35 r100 r120 q182 z154 z155 k156 k157 k158 k159 k160 yr401.1 k162 k163 k164 b165 s166 s167 l170 l173 l177 yr401.2.xB.ls yr401.2.xE else if ((x209.toNat : Nat) : Int) = 109 then r18_R_msg_L0 r35 r100 r120 q182 z154 z155 k156 k157 k158 k159 k160 k161 yr401.1 k163 k164 b165 s166 s167 l170 l173 l177 yr401.2.xB.ls yr401.2.xE else if ((x209.toNat : Nat) : Int) = 97 then r18_R_msg_L0 r35 r100 r120 q182 z154 z155 k156 k157 k158 k159 k160 k161 k162 yr401.1 k164 b165 s166 s167 l170 l173 l177 yr401.2.xB.ls yr401.2.xE else if ((x209.toNat : Nat) : Int) = 110 then r18_R_msg_L0 r35 r100 r120 q182 z154 z155 k156 k157 k158 k159 k160 k161 k162 k163 yr401.1 b165 s166 s167 l170 l173 l177 yr401.2.xB.ls yr401.2.xE else default
def r18_R_msg_L1 (r35 : Int) (r468 : Int) (r488 : Int) : List UInt8 → Int → Int → Nat → Nat → Nat → Nat → Nat → Nat → Nat → Nat → Nat → Bool → List UInt8 → List UInt8 → List OpD → List ResultT → List OwnerD → List UInt8 → Int → Nat × Nat × Nat × Nat × Nat × (List ResultT) × Int × Int × Nat × Nat × Nat × Nat × Bool × (List UInt8) × (List UInt8) × (List OpD) × (List OwnerD) × (List UInt8) × Int
  | [], z522, z523, k524, k525, k526, k527, k528, k529, k530, k531, k532, b533, s534, s535, l538, l541, l545, l548, z549 => (k524, k525, k526, k527, k528, l541, z522, z523, k529, k530, k531, k532, b533, s534, s535, l538, l545, l548, z549)
  | x577 :: q550, z522, z523, k524, k525, k526, k527, k528, k529, k530, k531, k532, b533, s534, s535, l538, l541, l545, l548, z549 => if ((x577.toNat : Nat) : Int) = 99 then bnd (r18_R_Byte (RT.mk (Ll.mk l548) z549)) fun yr587 => r18_R_msg_L1 r35 r468 r488 q550 yr587.1 z523 k524 k525 k526 k527 k528 k529 k530 k531 k532 b533 s534 s535 l538 l541 l545 yr587.2.xB.ls yr587.2.xE else if ((x577.toNat : Nat) : Int) = 112 then bnd (r18_R_Byte (RT.mk (Ll.mk l548) z549)) fun yr609 => r18_R_msg_L1 r35 r468 r488 q550 z522 yr609.1 k524 k525 k526 k527 k528 k529 k530 k531 k532 b533 s534 s535 l538 l541 l545 yr609.2.xB.ls yr609.2.xE else if ((x577.toNat : Nat) : Int) = 102 then bnd (r18_R_Flag (RT.mk (Ll.mk l548) z549)) fun yr631 => r18_R_msg_L1 r35 r468 r488 q550 z522 z523 k524 k525 k526 k527 k528 k529 k530 k531 k532 yr631.1 s534 s535 l538 l541 l545 yr631.2.xB.ls yr631.2.xE else if ((x577.toNat : Nat) : Int) = 114 then bnd (r18_R_Text (RT.mk (Ll.mk l548) z549)) fun yr652 => bnd (r18_R_Text yr652.2) fun yr671 => r18_R_msg_L1 r35 r468 r488 q550 z522 z523 k524 k525 k526 k527 k528 k529 k530 k531 k532 b533 yr652.1 yr671.1 l538 l541 l545 yr671.2.xB.ls yr671.2.xE else if ((x577.toNat : Nat) : Int) = 111 then bnd (r18_R_Ops (RT.mk (Ll.mk l548) z549)) fun yr692 => r18_R_msg_L1 r35 r468 r488 q550 z522 z523 k524 k525 k526 k527 k528 k529 k530 k531 k532 b533 s534 s535 yr692.1 l541 l545 yr692.2.xB.ls yr692.2.xE else if ((x577.toNat : Nat) : Int) = 115 then bnd (r18_R_Res (RT.mk (Ll.mk l548) z549)) fun yr717 => r18_R_msg_L1 r35 r468 r488 q550 z522 z523 k524 k525 k526 k527 k528 k529 k530 k531 k532 b533 s534 s535 l538 yr717.1 l545 yr717.2.xB.ls yr717.2.xE else if ((x577.toNat : Nat) : Int) = 119 then bnd (r18_R_Owners (RT.mk (Ll.mk l548) z549)) fun yr745 => r18_R_msg_L1 r35 r468 r488 q550 z522 z523 k524 k525 k526 k527 k528 k529 k530 k531 k532 b533 s534 s535 l538 l541 yr745.1 yr745.2.xB.ls yr745.2.xE else bnd (r18_R_Num (RT.mk (Ll.mk l548) z549)) fun yr769 => if ((x577.toNat : Nat) : Int) = 113 then r18_R_msg_L1 r35 r468 r488 q550 z522 z523 yr769.1 k525 k526 k527 k528 k529 k530 k531 k532 b533 s534 s535 l538 l541 l545 yr769.2.xB.ls yr769.2.xE else if ((x577.toNat : Nat) : Int) = 98 then r18_R_msg_L1 r35 r468 r488 q550 z522 z523 k524 yr769.1 k526 k527 k528 k529 k530 k531 k532 b533 s534 s535 l538 l541 l545 yr769.2.xB.ls yr769.2.xE else if ((x577.toNat : Nat) : Int) = 116 then r18_R_msg_L1 r35 r468 r488 q550 z522 z523 k524 k525 yr769.1 k527 k528 k529 k530 k531 k532 b533 s534 s535 l538 l541 l545 yr769.2.xB.ls yr769.2.xE else if ((x577.toNat : Nat) : Int) = 108 then r18_R_msg_L1 r35 r468 r488 q550 z522 z523 k524 k525 k526 yr769.1 k528 k529 k530 k531 k532 b533 s534 s535 l538 l541 l545 yr769.2.xB.ls yr769.2.xE else if ((x577.toNat : Nat) : Int) = 118 then r18_R_msg_L1 r35 r468 r488 q550 z522 z523 k524 k525 k526 k527 yr769.1 k529 k530 k531 k532 b533 s534 s535 l538 l541 l545 yr769.2.xB.ls yr769.2.xE else if ((x577.toNat : Nat) : Int) = 101 then r18_R_msg_L1 r35 r468 r488 q550 z522 z523 k524 k525 k526 k527 k528 yr769.1 k530 k531 k532 b533 s534 s535 l538 l541 l545 yr769.2.xB.ls yr769.2.xE else if ((x577.toNat : Nat) : Int) = 109 then r18_R_msg_L1 r35 r468 r488 q550 z522 z523 k524 k525 k526 k527 k528 k529 yr769.1 k531 k532 b533 s534 s535 l538 l541 l545 yr769.2.xB.ls yr769.2.xE else if ((x577.toNat : Nat) : Int) = 97 then r18_R_msg_L1 r35 r468 r488 q550 z522 z523 k524 k525 k526 k527 k528 k529 k530 yr769.1 k532 b533 s534 s535 l538 l541 l545 yr769.2.xB.ls yr769.2.xE else if ((x577.toNat : Nat) : Int) = 110 then r18_R_msg_L1 r35 r468 r488 q550 z522 z523 k524 k525 k526 k527 k528 k529 k530 k531 yr769.1 b533 s534 s535 l538 l541 l545 yr769.2.xB.ls yr769.2.xE else default
def r18_R_msg (p0 : RT) : MsgT × RT :=
  bnd (r18_R_Byte p0) fun yr35 => if yr35.2.xE = 0 then bnd (r18_fields yr35.1) fun yr55 => bnd (if yr55 = ([]) then bnd (r18_R_Fail yr35.2 11) fun yr75 => (yr75.xB.ls, yr75.xE) else (yr35.2.xB.ls, yr35.2.xE)) fun sJrbtbJ => bnd (r18_R_Byte (RT.mk (Ll.mk sJrbtbJ.1) sJrbtbJ.2)) fun yr100 => bnd (r18_R_Byte yr100.2) fun yr120 => bnd (r18_fields yr35.1) fun yr139 => bnd (r18_R_msg_L0 yr35.1 yr100.1 yr120.1 yr139 0 0 0 0 0 0 0 0 0 0 0 false ([]) ([]) ([]) ([]) ([]) yr120.2.xB.ls yr120.2.xE) fun sLrbtbJabbbL => (MsgT.mk yr35.1 yr100.1 yr120.1 0 sLrbtbJabbbL.2.2.2.2.2.2.1 sLrbtbJabbbL.2.2.2.2.2.2.2.1 sLrbtbJabbbL.1 sLrbtbJabbbL.2.1 sLrbtbJabbbL.2.2.1 sLrbtbJabbbL.2.2.2.1 sLrbtbJabbbL.2.2.2.2.1 sLrbtbJabbbL.2.2.2.2.2.2.2.2.1 sLrbtbJabbbL.2.2.2.2.2.2.2.2.2.1 sLrbtbJabbbL.2.2.2.2.2.2.2.2.2.2.1 sLrbtbJabbbL.2.2.2.2.2.2.2.2.2.2.2.1 sLrbtbJabbbL.2.2.2.2.2.2.2.2.2.2.2.2.1 (RangeD.mk sLrbtbJabbbL.2.2.2.2.2.2.2.2.2.2.2.2.2.1 sLrbtbJabbbL.2.2.2.2.2.2.2.2.2.2.2.2.2.2.1) (Ll.mk sLrbtbJabbbL.2.2.2.2.2.2.2.2.2.2.2.2.2.2.2.1) (Ll.mk sLrbtbJabbbL.2.2.2.2.2.1) (Ll.mk sLrbtbJabbbL.2.2.2.2.2.2.2.2.2.2.2.2.2.2.2.2.1), RT.mk (Ll.mk sLrbtbJabbbL.2.2.2.2.2.2.2.2.2.2.2.2.2.2.2.2.2.1) sLrbtbJabbbL.2.2.2.2.2.2.2.2.2.2.2.2.2.2.2.2.2.2) else bnd (r18_R_Byte yr35.2) fun yr468 => bnd (r18_R_Byte yr468.2) fun yr488 => bnd (r18_fields yr35.1) fun yr507 => bnd (r18_R_msg_L1 yr35.1 yr468.1 yr488.1 yr507 0 0 0 0 0 0 0 0 0 0 0 false ([]) ([]) ([]) ([]) ([]) yr488.2.xB.ls yr488.2.xE) fun sLrbfbbbL => (MsgT.mk yr35.1 yr468.1 yr488.1 0 sLrbfbbbL.2.2.2.2.2.2.1 sLrbfbbbL.2.2.2.2.2.2.2.1 sLrbfbbbL.1 sLrbfbbbL.2.1 sLrbfbbbL.2.2.1 sLrbfbbbL.2.2.2.1 sLrbfbbbL.2.2.2.2.1 sLrbfbbbL.2.2.2.2.2.2.2.2.1 sLrbfbbbL.2.2.2.2.2.2.2.2.2.1 sLrbfbbbL.2.2.2.2.2.2.2.2.2.2.1 sLrbfbbbL.2.2.2.2.2.2.2.2.2.2.2.1 sLrbfbbbL.2.2.2.2.2.2.2.2.2.2.2.2.1 (RangeD.mk sLrbfbbbL.2.2.2.2.2.2.2.2.2.2.2.2.2.1 sLrbfbbbL.2.2.2.2.2.2.2.2.2.2.2.2.2.2.1) (Ll.mk sLrbfbbbL.2.2.2.2.2.2.2.2.2.2.2.2.2.2.2.1) (Ll.mk sLrbfbbbL.2.2.2.2.2.1) (Ll.mk sLrbfbbbL.2.2.2.2.2.2.2.2.2.2.2.2.2.2.2.2.1), RT.mk (Ll.mk sLrbfbbbL.2.2.2.2.2.2.2.2.2.2.2.2.2.2.2.2.2.1) sLrbfbbbL.2.2.2.2.2.2.2.2.2.2.2.2.2.2.2.2.2.2)
set_option maxRecDepth 100000 in
set_option maxHeartbeats 4000000 in
theorem r18_R_msg_ok (w : World) (D : Nat → Prop) (g0 : Nat) (p0 : RT) (A0x0 : Option Addr) (c0x0 : Nat) (r0 : MsgT) (r1 : RT) (H : Own w D w [blk g0 [.slice A0x0 p0.xB.ls.length c0x0, .int .i64 p0.xE] 75]) (hx0x0 : Ro w D fun w' => Rds w' 1 A0x0 p0.xB.ls.length (List.flatMap eB p0.xB.ls)) (hb0x0 : p0.xB.ls.length ≤ c0x0 ∧ p0.xB.ls.length ≤ 9223372036854775807) (hr : r18_R_msg p0 = (r0, r1)) :
    Calls Tryz.prog 45 #[.pointer (some ⟨g0, 0, none⟩)] w (Ret fun v w' => ∃ (B0x0 : Option Addr) (b0x0 : Nat) (B0x1 : Option Addr) (b0x1 : Nat) (B0x2 : Option Addr) (b0x2 : Nat) (e0x1 : List ResultD) (B1ox0 : Option Addr) (b1ox0 : Nat), v = .agg (MsgP r0 B0x0 b0x0 B0x1 b0x1 B0x2 b0x2).toArray ∧ Own w D w' [row B0x0 r0.xOps.ls.length b0x0 (List.flatMap OpD.cells r0.xOps.ls) 64 6, row B0x1 r0.xResults.ls.length b0x1 (List.flatMap ResultD.cells e0x1) 84 3, sepL (List.flatMap ResultD.own e0x1), row B0x2 r0.xOwners.ls.length b0x2 (List.flatMap OwnerD.cells r0.xOwners.ls) 88 2, blk g0 [.slice B1ox0 r1.xB.ls.length b1ox0, .int .i64 r1.xE] 75] ∧ (List.map ResultD.abs e0x1 = r0.xResults.ls) ∧ (SubS 1 A0x0 c0x0 p0.xB.ls B1ox0 b1ox0 r1.xB.ls) ∧ (r0.xOps.ls.length ≤ 1000 ∧ r0.xResults.ls.length ≤ 1000 ∧ r0.xOwners.ls.length ≤ 1000 ∧ r0.xReq ≤ 18446744073709551615 ∧ r0.xBoot ≤ 18446744073709551615 ∧ r0.xTxn ≤ 18446744073709551615 ∧ r0.xLow ≤ 18446744073709551615 ∧ r0.xVer ≤ 18446744073709551615 ∧ r0.xEpoch ≤ 18446744073709551615 ∧ r0.xMove ≤ 18446744073709551615 ∧ r0.xAttempt ≤ 18446744073709551615 ∧ r0.xN ≤ 18446744073709551615)) := by
  refine Calls.body (args := [.pointer (some ⟨g0, 0, none⟩)]) Tryz.func45 rfl rfl rfl ?_
  show Wp _ _ _ [(0, .pointer (some ⟨g0, 0, none⟩))] _ _
  refine sr ?_
  refine npw (MsgC 0 0 0 0 0 0 0 0 0 0 0 0 0 0 0 false ([]) ([]) none 0 0 none 0 0 none 0 0) 29 H ?_
  intro g21 w22 H23
  refine ns (Kz (.agg (MsgC 0 0 0 0 0 0 0 0 0 0 0 0 0 0 0 false ([]) ([]) none 0 0 none 0 0 none 0 0).toArray) ?_)
  refine npw (MsgC 0 0 0 0 0 0 0 0 0 0 0 0 0 0 0 false ([]) ([]) none 0 0 none 0 0 none 0 0) 29 H23 ?_
  intro g24 w25 H26
  refine sto (MsgC 0 0 0 0 0 0 0 0 0 0 0 0 0 0 0 false ([]) ([]) none 0 0 none 0 0 none 0 0) 0 H26 Tryz.sizeOf29 ?_
  intro w27 H28
  refine ns (Mz rfl ?_)
  have H29 := H28.pick [2, 0, 1] (by decide) rfl
  obtain ⟨⟨r35, r36⟩, hr37⟩ : ∃ q : Int × RT, r18_R_Byte p0 = q := ⟨_, rfl⟩
  obtain ⟨D30, HP31, ro32, bk33, rr34⟩ := Own.enter1 H29
  refine cl Tryz.call90 (r18_R_Byte_ok _ _ g0 p0 A0x0 c0x0 r35 r36 HP31 (ro32 _ hx0x0) (show p0.xB.ls.length ≤ c0x0 ∧ p0.xB.ls.length ≤ 9223372036854775807 from by omega) hr37) ?_
  rintro _ w38 ⟨A41, c42, rfl, HQ39, hs43, hk44⟩
  have H40 := bk33 _ _ HQ39
  replace hs43 : SubS 1 A0x0 c0x0 p0.xB.ls A41 c42 r36.xB.ls := hs43
  have hz45 := (hs43).le
  replace hk44 : 0 ≤ r35 ∧ r35 ≤ 255 := hk44
  refine Kz (.pointer (some ⟨g24, 0, none⟩)) ?_
  have H46 := H40.pick [1, 0, 2] (by decide) rfl
  refine sto [.int .i64 r35] 0 H46 Tryz.sizeOf3 ?_
  intro w47 H48
  refine nt (Wp.seq (sr (Mz rfl (Kz (.pointer (some ⟨g0, 0, none⟩)) (Kz (.pointer (some ⟨g0, 1, none⟩)) (Lz (.int .i64 r36.xE) H48 1 Tryz.isAgg32 (Kz (.bool (decide (r36.xE = 0))) (Mz rfl ?_))))))))
  by_cases h49 : r36.xE = 0
  refine Gz (.pointer (some ⟨g24, 0, none⟩)) (dT h49) (Gl (.int .i64 r35) (dT h49) H48 0 Tryz.isAgg3 ?_)
  obtain ⟨r55, hr56⟩ : ∃ q, r18_fields r35 = q := ⟨_, rfl⟩
  obtain ⟨D50, HP51, ro52, bk53, rr54⟩ := Own.enter0 H48
  refine WL.doG rfl rfl (dT h49) rfl (Do.call Tryz.call27 rfl (r18_fields_ok _ _ r35 r55 HP51 hr56) ?_)
  rintro _ w57 ⟨rfl, HQ58, hk60⟩
  have H59 := bk53 _ _ HQ58
  replace hk60 : r55.length ≤ 5 := hk60
  refine WL.valG (v := .bool (decide (r55 = ([])))) rfl rfl (dT h49) rfl (Yl.strEq rfl rfl) (fw (.bool (decide (r55 = ([])))) (Yl.pickT rfl (dT h49) rfl) (nt ?_))
  obtain ⟨I65, hI66⟩ : ∃ q : ((Option Addr) × Nat × (List UInt8) × Int) → World → Prop, q = fun (i : (Option Addr) × Nat × (List UInt8) × Int) w' => Own w D w' [blk g24 (MsgC r35 0 0 0 0 0 0 0 0 0 0 0 0 0 0 false ([]) ([]) none 0 0 none 0 0 none 0 0) 29, blk g0 [.slice i.1 i.2.2.1.length i.2.1, .int .i64 i.2.2.2] 75, blk g21 (MsgC 0 0 0 0 0 0 0 0 0 0 0 0 0 0 0 false ([]) ([]) none 0 0 none 0 0 none 0 0) 29] ∧ (SubS 1 A41 c42 r36.xB.ls i.1 i.2.1 i.2.2.1 ∧ i.2.2.1.length ≤ r36.xB.ls.length ∧ i.2.2.1.length ≤ r36.xB.ls.length + 1 ∧ (if r55 = ([]) then bnd (r18_R_Fail r36 11) fun yr75 => (yr75.xB.ls, yr75.xE) else (r36.xB.ls, r36.xE)) = (i.2.2.1, i.2.2.2)) := ⟨_, rfl⟩
  have dm67 : ∀ {A61 : Option Addr} {c62 : Nat} {l63 : List UInt8} {z64 : Int} {w' : World}, I65 (A61, c62, l63, z64) w' ↔ Own w D w' [blk g24 (MsgC r35 0 0 0 0 0 0 0 0 0 0 0 0 0 0 false ([]) ([]) none 0 0 none 0 0 none 0 0) 29, blk g0 [.slice A61 l63.length c62, .int .i64 z64] 75, blk g21 (MsgC 0 0 0 0 0 0 0 0 0 0 0 0 0 0 0 false ([]) ([]) none 0 0 none 0 0 none 0 0) 29] ∧ SubS 1 A41 c42 r36.xB.ls A61 c62 l63 ∧ l63.length ≤ r36.xB.ls.length ∧ l63.length ≤ r36.xB.ls.length + 1 ∧ (if r55 = ([]) then bnd (r18_R_Fail r36 11) fun yr75 => (yr75.xB.ls, yr75.xE) else (r36.xB.ls, r36.xE)) = (l63, z64) := by intros; subst hI66; exact Iff.rfl
  refine Wp.joinT (fun i : (Option Addr) × Nat × (List UInt8) × Int => [(3, .pointer (some ⟨g24, 0, none⟩)), (2, .pointer (some ⟨g21, 0, none⟩)), (0, .pointer (some ⟨g0, 0, none⟩))]) I65 ?_ ?_
  by_cases h68 : r55 = ([])
  refine jT (dT h68) (Wp.region (Mz rfl ?_))
  have H69 := H59.pick [1, 0, 2] (by decide) rfl
  obtain ⟨r75, hr76⟩ : ∃ q, r18_R_Fail r36 11 = q := ⟨_, rfl⟩
  obtain ⟨D70, HP71, ro72, bk73, rr74⟩ := Own.enter1 H69
  refine cl Tryz.call46 (r18_R_Fail_ok _ _ g0 r36 A41 c42 11 r75 HP71 (fun w9 h9 => SubS.rds eB_len (by decide) hs43 ((ro72 _ hx0x0) w9 h9)) (show r36.xB.ls.length ≤ c42 ∧ r36.xB.ls.length ≤ 9223372036854775807 from by omega) hr76) ?_
  rintro _ w77 ⟨A80, c81, rfl, HQ78, hs82⟩
  have H79 := bk73 _ _ HQ78
  replace hs82 : SubS 1 A41 c42 r36.xB.ls A80 c81 r75.xB.ls := hs82
  have hz83 := (hs82).le
  refine WL.nil ?_
  have H84 := H79.pick [1, 0, 2] (by decide) rfl
  exact Fin.join (A80, c81, r75.xB.ls, r75.xE) ⟨rfl, rfl, rfl, trivial⟩ (dm67.2 ⟨H84, by exact hs82, by omega, by omega, et (ip h68) (bnd_of hr76)⟩)
  refine jF (dF h68) (Wp.skip ?_)
  have H85 := H59.pick [0, 1, 2] (by decide) rfl
  exact Fin.join (A41, c42, r36.xB.ls, r36.xE) ⟨rfl, rfl, rfl, trivial⟩ (dm67.2 ⟨H85, by exact (SubS.refl (by omega)), by omega, by omega, iN h68⟩)
  rintro ⟨A61, c62, l63, z64⟩ w86 hf88
  show Wp _ _ _ [(3, .pointer (some ⟨g24, 0, none⟩)), (2, .pointer (some ⟨g21, 0, none⟩)), (0, .pointer (some ⟨g0, 0, none⟩))] _ _
  obtain ⟨H87, hi90, hi91, hi92, hj89⟩ := dm67.1 hf88
  have hz93 := (hi90).le
  refine sr (Mz rfl ?_)
  have H94 := H87.pick [1, 0, 2] (by decide) rfl
  obtain ⟨⟨r100, r101⟩, hr102⟩ : ∃ q : Int × RT, r18_R_Byte (RT.mk (Ll.mk l63) z64) = q := ⟨_, rfl⟩
  obtain ⟨D95, HP96, ro97, bk98, rr99⟩ := Own.enter1 H94
  refine cl Tryz.call90 (r18_R_Byte_ok _ _ g0 (RT.mk (Ll.mk l63) z64) A61 c62 r100 r101 HP96 (fun w9 h9 => SubS.rds eB_len (by decide) hi90 ((fun w9 h9 => SubS.rds eB_len (by decide) hs43 ((ro97 _ hx0x0) w9 h9)) w9 h9)) (show l63.length ≤ c62 ∧ l63.length ≤ 9223372036854775807 from by omega) hr102) ?_
  rintro _ w103 ⟨A106, c107, rfl, HQ104, hs108, hk109⟩
  have H105 := bk98 _ _ HQ104
  replace hs108 : SubS 1 A61 c62 l63 A106 c107 r101.xB.ls := hs108
  have hz110 := (hs108).le
  replace hk109 : 0 ≤ r100 ∧ r100 ≤ 255 := hk109
  refine Kz (.pointer (some ⟨g24, 1, none⟩)) ?_
  have H111 := H105.pick [1, 0, 2] (by decide) rfl
  refine sto [.int .i64 r100] 1 H111 Tryz.sizeOf3 ?_
  intro w112 H113
  refine ns (Mz rfl ?_)
  have H114 := H113.pick [1, 0, 2] (by decide) rfl
  obtain ⟨⟨r120, r121⟩, hr122⟩ : ∃ q : Int × RT, r18_R_Byte r101 = q := ⟨_, rfl⟩
  obtain ⟨D115, HP116, ro117, bk118, rr119⟩ := Own.enter1 H114
  refine cl Tryz.call90 (r18_R_Byte_ok _ _ g0 r101 A106 c107 r120 r121 HP116 (fun w9 h9 => SubS.rds eB_len (by decide) hs108 ((fun w9 h9 => SubS.rds eB_len (by decide) hi90 ((fun w9 h9 => SubS.rds eB_len (by decide) hs43 ((ro117 _ hx0x0) w9 h9)) w9 h9)) w9 h9)) (show r101.xB.ls.length ≤ c107 ∧ r101.xB.ls.length ≤ 9223372036854775807 from by omega) hr122) ?_
  rintro _ w123 ⟨A126, c127, rfl, HQ124, hs128, hk129⟩
  have H125 := bk118 _ _ HQ124
  replace hs128 : SubS 1 A106 c107 r101.xB.ls A126 c127 r121.xB.ls := hs128
  have hz130 := (hs128).le
  replace hk129 : 0 ≤ r120 ∧ r120 ≤ 255 := hk129
  refine Kz (.pointer (some ⟨g24, 2, none⟩)) ?_
  have H131 := H125.pick [1, 0, 2] (by decide) rfl
  refine sto [.int .i64 r120] 2 H131 Tryz.sizeOf3 ?_
  intro w132 H133
  refine nt (Wp.seq (sr (Kz (.pointer (some ⟨g24, 0, none⟩)) (Lz (.int .i64 r35) H133 0 Tryz.isAgg3 ?_))))
  obtain ⟨r139, hr140⟩ : ∃ q, r18_fields r35 = q := ⟨_, rfl⟩
  obtain ⟨D134, HP135, ro136, bk137, rr138⟩ := Own.enter0 H133
  refine cl Tryz.call27 (r18_fields_ok _ _ r35 r139 HP135 hr140) ?_
  rintro _ w141 ⟨rfl, HQ142, hk144⟩
  have H143 := bk137 _ _ HQ142
  replace hk144 : r139.length ≤ 5 := hk144
  refine WL.do rfl (Do.toBytesE (l := r139) Tryz.underlying9 Tryz.underlying31 Tryz.underlying5 H143 rfl (by unfold maxLen; omega) ?_)
  intro A145 c146 w147 H148
  refine Kz (.int .i64 ((r139.length : Nat) : Int)) (Mn rfl (Wp.block ?_))
  have H149 : Own w D w147 [row none 0 0 (List.flatMap OpD.cells ([])) 64 6, row A145 r139.length c146 (List.flatMap eB r139) 5 1, blk g24 (MsgC r35 r100 r120 0 0 0 0 0 0 0 0 0 0 0 0 false ([]) ([]) none 0 0 none 0 0 none 0 0) 29, blk g0 [.slice A126 r121.xB.ls.length c127, .int .i64 r121.xE] 75, blk g21 (MsgC 0 0 0 0 0 0 0 0 0 0 0 0 0 0 0 false ([]) ([]) none 0 0 none 0 0 none 0 0) 29] := H148.free (row_nil 64 6)
  have H150 : Own w D w147 [sepL (List.flatMap ResultD.own ([])), row none 0 0 (List.flatMap OpD.cells ([])) 64 6, row A145 r139.length c146 (List.flatMap eB r139) 5 1, blk g24 (MsgC r35 r100 r120 0 0 0 0 0 0 0 0 0 0 0 0 false ([]) ([]) none 0 0 none 0 0 none 0 0) 29, blk g0 [.slice A126 r121.xB.ls.length c127, .int .i64 r121.xE] 75, blk g21 (MsgC 0 0 0 0 0 0 0 0 0 0 0 0 0 0 0 false ([]) ([]) none 0 0 none 0 0 none 0 0) 29] := H149.sepNil
  have H151 : Own w D w147 [row none 0 0 (List.flatMap ResultD.cells ([])) 84 3, sepL (List.flatMap ResultD.own ([])), row none 0 0 (List.flatMap OpD.cells ([])) 64 6, row A145 r139.length c146 (List.flatMap eB r139) 5 1, blk g24 (MsgC r35 r100 r120 0 0 0 0 0 0 0 0 0 0 0 0 false ([]) ([]) none 0 0 none 0 0 none 0 0) 29, blk g0 [.slice A126 r121.xB.ls.length c127, .int .i64 r121.xE] 75, blk g21 (MsgC 0 0 0 0 0 0 0 0 0 0 0 0 0 0 0 false ([]) ([]) none 0 0 none 0 0 none 0 0) 29] := H150.free (row_nil 84 3)
  have H152 : Own w D w147 [row none 0 0 (List.flatMap OwnerD.cells ([])) 88 2, row none 0 0 (List.flatMap ResultD.cells ([])) 84 3, sepL (List.flatMap ResultD.own ([])), row none 0 0 (List.flatMap OpD.cells ([])) 64 6, row A145 r139.length c146 (List.flatMap eB r139) 5 1, blk g24 (MsgC r35 r100 r120 0 0 0 0 0 0 0 0 0 0 0 0 false ([]) ([]) none 0 0 none 0 0 none 0 0) 29, blk g0 [.slice A126 r121.xB.ls.length c127, .int .i64 r121.xE] 75, blk g21 (MsgC 0 0 0 0 0 0 0 0 0 0 0 0 0 0 0 false ([]) ([]) none 0 0 none 0 0 none 0 0) 29] := H151.free (row_nil 88 2)
  have H183 := H152.pick [4, 5, 6, 7, 3, 1, 2, 0] (by decide) rfl
  obtain ⟨I187, hI188⟩ : ∃ q : (Nat × Int × Int × Nat × Nat × Nat × Nat × Nat × Nat × Nat × Nat × Nat × Bool × (List UInt8) × (List UInt8) × (Option Addr) × Nat × (List OpD) × (Option Addr) × Nat × (List ResultD) × (List ResultT) × (Option Addr) × Nat × (List OwnerD) × (Option Addr) × Nat × (List UInt8) × Int) → World → Prop, q = fun (i : Nat × Int × Int × Nat × Nat × Nat × Nat × Nat × Nat × Nat × Nat × Nat × Bool × (List UInt8) × (List UInt8) × (Option Addr) × Nat × (List OpD) × (Option Addr) × Nat × (List ResultD) × (List ResultT) × (Option Addr) × Nat × (List OwnerD) × (Option Addr) × Nat × (List UInt8) × Int) w' => Own w D w' [row A145 r139.length c146 (List.flatMap eB r139) 5 1, blk g24 (MsgC r35 r100 r120 0 i.2.1 i.2.2.1 i.2.2.2.1 i.2.2.2.2.1 i.2.2.2.2.2.1 i.2.2.2.2.2.2.1 i.2.2.2.2.2.2.2.1 i.2.2.2.2.2.2.2.2.1 i.2.2.2.2.2.2.2.2.2.1 i.2.2.2.2.2.2.2.2.2.2.1 i.2.2.2.2.2.2.2.2.2.2.2.1 i.2.2.2.2.2.2.2.2.2.2.2.2.1 i.2.2.2.2.2.2.2.2.2.2.2.2.2.1 i.2.2.2.2.2.2.2.2.2.2.2.2.2.2.1 i.2.2.2.2.2.2.2.2.2.2.2.2.2.2.2.1 i.2.2.2.2.2.2.2.2.2.2.2.2.2.2.2.2.2.1.length i.2.2.2.2.2.2.2.2.2.2.2.2.2.2.2.2.1 i.2.2.2.2.2.2.2.2.2.2.2.2.2.2.2.2.2.2.1 i.2.2.2.2.2.2.2.2.2.2.2.2.2.2.2.2.2.2.2.2.2.1.length i.2.2.2.2.2.2.2.2.2.2.2.2.2.2.2.2.2.2.2.1 i.2.2.2.2.2.2.2.2.2.2.2.2.2.2.2.2.2.2.2.2.2.2.1 i.2.2.2.2.2.2.2.2.2.2.2.2.2.2.2.2.2.2.2.2.2.2.2.2.1.length i.2.2.2.2.2.2.2.2.2.2.2.2.2.2.2.2.2.2.2.2.2.2.2.1) 29, blk g0 [.slice i.2.2.2.2.2.2.2.2.2.2.2.2.2.2.2.2.2.2.2.2.2.2.2.2.2.1 i.2.2.2.2.2.2.2.2.2.2.2.2.2.2.2.2.2.2.2.2.2.2.2.2.2.2.2.1.length i.2.2.2.2.2.2.2.2.2.2.2.2.2.2.2.2.2.2.2.2.2.2.2.2.2.2.1, .int .i64 i.2.2.2.2.2.2.2.2.2.2.2.2.2.2.2.2.2.2.2.2.2.2.2.2.2.2.2.2] 75, blk g21 (MsgC 0 0 0 0 0 0 0 0 0 0 0 0 0 0 0 false ([]) ([]) none 0 0 none 0 0 none 0 0) 29, row i.2.2.2.2.2.2.2.2.2.2.2.2.2.2.2.1 i.2.2.2.2.2.2.2.2.2.2.2.2.2.2.2.2.2.1.length i.2.2.2.2.2.2.2.2.2.2.2.2.2.2.2.2.1 (List.flatMap OpD.cells i.2.2.2.2.2.2.2.2.2.2.2.2.2.2.2.2.2.1) 64 6, row i.2.2.2.2.2.2.2.2.2.2.2.2.2.2.2.2.2.2.1 i.2.2.2.2.2.2.2.2.2.2.2.2.2.2.2.2.2.2.2.2.2.1.length i.2.2.2.2.2.2.2.2.2.2.2.2.2.2.2.2.2.2.2.1 (List.flatMap ResultD.cells i.2.2.2.2.2.2.2.2.2.2.2.2.2.2.2.2.2.2.2.2.1) 84 3, sepL (List.flatMap ResultD.own i.2.2.2.2.2.2.2.2.2.2.2.2.2.2.2.2.2.2.2.2.1), row i.2.2.2.2.2.2.2.2.2.2.2.2.2.2.2.2.2.2.2.2.2.2.1 i.2.2.2.2.2.2.2.2.2.2.2.2.2.2.2.2.2.2.2.2.2.2.2.2.1.length i.2.2.2.2.2.2.2.2.2.2.2.2.2.2.2.2.2.2.2.2.2.2.2.1 (List.flatMap OwnerD.cells i.2.2.2.2.2.2.2.2.2.2.2.2.2.2.2.2.2.2.2.2.2.2.2.2.1) 88 2] ∧ (List.map ResultD.abs i.2.2.2.2.2.2.2.2.2.2.2.2.2.2.2.2.2.2.2.2.1 = i.2.2.2.2.2.2.2.2.2.2.2.2.2.2.2.2.2.2.2.2.2.1 ∧ SubS 1 A126 c127 r121.xB.ls i.2.2.2.2.2.2.2.2.2.2.2.2.2.2.2.2.2.2.2.2.2.2.2.2.2.1 i.2.2.2.2.2.2.2.2.2.2.2.2.2.2.2.2.2.2.2.2.2.2.2.2.2.2.1 i.2.2.2.2.2.2.2.2.2.2.2.2.2.2.2.2.2.2.2.2.2.2.2.2.2.2.2.1 ∧ i.1 ≤ r139.length ∧ i.2.2.2.2.2.2.2.2.2.2.2.2.2.2.2.2.2.1.length ≤ 1000 ∧ i.2.2.2.2.2.2.2.2.2.2.2.2.2.2.2.2.2.2.2.2.2.1.length ≤ 1000 ∧ i.2.2.2.2.2.2.2.2.2.2.2.2.2.2.2.2.2.2.2.2.2.2.2.2.1.length ≤ 1000 ∧ i.2.2.2.1 ≤ 18446744073709551615 ∧ i.2.2.2.2.1 ≤ 18446744073709551615 ∧ i.2.2.2.2.2.1 ≤ 18446744073709551615 ∧ i.2.2.2.2.2.2.1 ≤ 18446744073709551615 ∧ i.2.2.2.2.2.2.2.1 ≤ 18446744073709551615 ∧ i.2.2.2.2.2.2.2.2.1 ≤ 18446744073709551615 ∧ i.2.2.2.2.2.2.2.2.2.1 ≤ 18446744073709551615 ∧ i.2.2.2.2.2.2.2.2.2.2.1 ≤ 18446744073709551615 ∧ i.2.2.2.2.2.2.2.2.2.2.2.1 ≤ 18446744073709551615 ∧ r18_R_msg_L0 r35 r100 r120 r139 0 0 0 0 0 0 0 0 0 0 0 false ([]) ([]) ([]) ([]) ([]) r121.xB.ls r121.xE = r18_R_msg_L0 r35 r100 r120 (List.drop i.1 r139) i.2.1 i.2.2.1 i.2.2.2.1 i.2.2.2.2.1 i.2.2.2.2.2.1 i.2.2.2.2.2.2.1 i.2.2.2.2.2.2.2.1 i.2.2.2.2.2.2.2.2.1 i.2.2.2.2.2.2.2.2.2.1 i.2.2.2.2.2.2.2.2.2.2.1 i.2.2.2.2.2.2.2.2.2.2.2.1 i.2.2.2.2.2.2.2.2.2.2.2.2.1 i.2.2.2.2.2.2.2.2.2.2.2.2.2.1 i.2.2.2.2.2.2.2.2.2.2.2.2.2.2.1 i.2.2.2.2.2.2.2.2.2.2.2.2.2.2.2.2.2.1 i.2.2.2.2.2.2.2.2.2.2.2.2.2.2.2.2.2.2.2.2.2.1 i.2.2.2.2.2.2.2.2.2.2.2.2.2.2.2.2.2.2.2.2.2.2.2.2.1 i.2.2.2.2.2.2.2.2.2.2.2.2.2.2.2.2.2.2.2.2.2.2.2.2.2.2.2.1 i.2.2.2.2.2.2.2.2.2.2.2.2.2.2.2.2.2.2.2.2.2.2.2.2.2.2.2.2) := ⟨_, rfl⟩
  have dm189 : ∀ {k153 : Nat} {z154 : Int} {z155 : Int} {k156 : Nat} {k157 : Nat} {k158 : Nat} {k159 : Nat} {k160 : Nat} {k161 : Nat} {k162 : Nat} {k163 : Nat} {k164 : Nat} {b165 : Bool} {s166 : List UInt8} {s167 : List UInt8} {A168 : Option Addr} {c169 : Nat} {l170 : List OpD} {A171 : Option Addr} {c172 : Nat} {d174 : List ResultD} {l173 : List ResultT} {A175 : Option Addr} {c176 : Nat} {l177 : List OwnerD} {A178 : Option Addr} {c179 : Nat} {l180 : List UInt8} {z181 : Int} {w' : World}, I187 (k153, z154, z155, k156, k157, k158, k159, k160, k161, k162, k163, k164, b165, s166, s167, A168, c169, l170, A171, c172, d174, l173, A175, c176, l177, A178, c179, l180, z181) w' ↔ Own w D w' [row A145 r139.length c146 (List.flatMap eB r139) 5 1, blk g24 (MsgC r35 r100 r120 0 z154 z155 k156 k157 k158 k159 k160 k161 k162 k163 k164 b165 s166 s167 A168 l170.length c169 A171 l173.length c172 A175 l177.length c176) 29, blk g0 [.slice A178 l180.length c179, .int .i64 z181] 75, blk g21 (MsgC 0 0 0 0 0 0 0 0 0 0 0 0 0 0 0 false ([]) ([]) none 0 0 none 0 0 none 0 0) 29, row A168 l170.length c169 (List.flatMap OpD.cells l170) 64 6, row A171 l173.length c172 (List.flatMap ResultD.cells d174) 84 3, sepL (List.flatMap ResultD.own d174), row A175 l177.length c176 (List.flatMap OwnerD.cells l177) 88 2] ∧ List.map ResultD.abs d174 = l173 ∧ SubS 1 A126 c127 r121.xB.ls A178 c179 l180 ∧ k153 ≤ r139.length ∧ l170.length ≤ 1000 ∧ l173.length ≤ 1000 ∧ l177.length ≤ 1000 ∧ k156 ≤ 18446744073709551615 ∧ k157 ≤ 18446744073709551615 ∧ k158 ≤ 18446744073709551615 ∧ k159 ≤ 18446744073709551615 ∧ k160 ≤ 18446744073709551615 ∧ k161 ≤ 18446744073709551615 ∧ k162 ≤ 18446744073709551615 ∧ k163 ≤ 18446744073709551615 ∧ k164 ≤ 18446744073709551615 ∧ r18_R_msg_L0 r35 r100 r120 r139 0 0 0 0 0 0 0 0 0 0 0 false ([]) ([]) ([]) ([]) ([]) r121.xB.ls r121.xE = r18_R_msg_L0 r35 r100 r120 (List.drop k153 r139) z154 z155 k156 k157 k158 k159 k160 k161 k162 k163 k164 b165 s166 s167 l170 l173 l177 l180 z181 := by intros; subst hI188; exact Iff.rfl
  refine Wp.loop (fun i : Nat × Int × Int × Nat × Nat × Nat × Nat × Nat × Nat × Nat × Nat × Nat × Bool × (List UInt8) × (List UInt8) × (Option Addr) × Nat × (List OpD) × (Option Addr) × Nat × (List ResultD) × (List ResultT) × (Option Addr) × Nat × (List OwnerD) × (Option Addr) × Nat × (List UInt8) × Int => [(35, .int .i64 ((i.1 : Nat) : Int)), (34, .int .i64 ((r139.length : Nat) : Int)), (33, .slice A145 r139.length c146), (3, .pointer (some ⟨g24, 0, none⟩)), (2, .pointer (some ⟨g21, 0, none⟩)), (0, .pointer (some ⟨g0, 0, none⟩))]) I187 (fun i => r139.length - i.1) (0, 0, 0, 0, 0, 0, 0, 0, 0, 0, 0, 0, false, [], [], none, 0, [], none, 0, [], [], none, 0, [], A126, c127, r121.xB.ls, r121.xE) ⟨rfl, rfl, rfl, rfl, rfl, rfl, trivial⟩ (dm189.2 ⟨H183, (show List.map ResultD.abs ([]) = ([]) ∧ SubS 1 A126 c127 r121.xB.ls A126 c127 r121.xB.ls ∧ 0 ≤ r139.length ∧ 0 ≤ 1000 ∧ 0 ≤ 1000 ∧ 0 ≤ 1000 ∧ 0 ≤ 18446744073709551615 ∧ 0 ≤ 18446744073709551615 ∧ 0 ≤ 18446744073709551615 ∧ 0 ≤ 18446744073709551615 ∧ 0 ≤ 18446744073709551615 ∧ 0 ≤ 18446744073709551615 ∧ 0 ≤ 18446744073709551615 ∧ 0 ≤ 18446744073709551615 ∧ 0 ≤ 18446744073709551615 ∧ r18_R_msg_L0 r35 r100 r120 r139 0 0 0 0 0 0 0 0 0 0 0 false ([]) ([]) ([]) ([]) ([]) r121.xB.ls r121.xE = r18_R_msg_L0 r35 r100 r120 (List.drop 0 r139) 0 0 0 0 0 0 0 0 0 0 0 false ([]) ([]) ([]) ([]) ([]) r121.xB.ls r121.xE from ⟨by exact rfl, by exact (SubS.refl (by omega)), by omega, by first | omega | exact Nat.zero_le _, by first | omega | exact Nat.zero_le _, by first | omega | exact Nat.zero_le _, by omega, by omega, by omega, by omega, by omega, by omega, by omega, by omega, by omega, rfl⟩)⟩) ?_
  rintro ⟨k153, z154, z155, k156, k157, k158, k159, k160, k161, k162, k163, k164, b165, s166, s167, A168, c169, l170, A171, c172, d174, l173, A175, c176, l177, A178, c179, l180, z181⟩ w184 hf186
  show Wp _ _ _ [(35, .int .i64 ((k153 : Nat) : Int)), (34, .int .i64 ((r139.length : Nat) : Int)), (33, .slice A145 r139.length c146), (3, .pointer (some ⟨g24, 0, none⟩)), (2, .pointer (some ⟨g21, 0, none⟩)), (0, .pointer (some ⟨g0, 0, none⟩))] _ _
  obtain ⟨H185, hi191, hi192, hi193, hi194, hi195, hi196, hi197, hi198, hi199, hi200, hi201, hi202, hi203, hi204, hi205, hq190⟩ := dm189.1 hf186
  have hl206 := abs_len hi191
  have hz207 := (hi192).le
  refine sr (Kz (.bool (decide (((k153 : Nat) : Int) < ((r139.length : Nat) : Int)))) (nt (Wp.seq ?_)))
  by_cases h208 : ((k153 : Nat) : Int) < ((r139.length : Nat) : Int)
  obtain ⟨x209, hx210⟩ := rds_at (ls := r139) (i := k153) eB_len (by decide) (H185.rds (i := 0) rfl) (by first | omega | (simp; done) | (simp; omega))
  have hd211 := drop_at hx210
  refine jT (dT h208) (Wp.skip (Fin.then (Wp.seq (Wp.block (sr (fw (.pointer (some ⟨ab A145, ao A145 + k153 * 1, none⟩)) (Yl.indexAddr (El31) rfl rfl ((H185.rds (i := 0) rfl).addr (i := k153) (by omega)) (by omega)) (fw (.int .u8 ((x209.toNat : Nat) : Int)) (Yl.load rfl (Lds.one Tryz.isAgg5 (((H185.rds (i := 0) rfl).elem eB_len hx210 (by decide)).at_ (k := 0) rfl))) (Ar rfl (Mn rfl (Wp.block (sr (Kz (.bool (decide (((x209.toNat : Nat) : Int) = 99))) (An rfl ?_)))))))))))))
  by_cases h212 : ((x209.toNat : Nat) : Int) = 99
  refine jT (dT h212) (Wp.region (Mz rfl ?_))
  have H213 := H185.pick [2, 0, 1, 3, 4, 5, 6, 7] (by decide) rfl
  obtain ⟨⟨r219, r220⟩, hr221⟩ : ∃ q : Int × RT, r18_R_Byte (RT.mk (Ll.mk l180) z181) = q := ⟨_, rfl⟩
  obtain ⟨D214, HP215, ro216, bk217, rr218⟩ := Own.enter1 H213
  refine cl Tryz.call90 (r18_R_Byte_ok _ _ g0 (RT.mk (Ll.mk l180) z181) A178 c179 r219 r220 HP215 (fun w9 h9 => SubS.rds eB_len (by decide) hi192 ((fun w9 h9 => SubS.rds eB_len (by decide) hs128 ((fun w9 h9 => SubS.rds eB_len (by decide) hs108 ((fun w9 h9 => SubS.rds eB_len (by decide) hi90 ((fun w9 h9 => SubS.rds eB_len (by decide) hs43 ((ro216 _ hx0x0) w9 h9)) w9 h9)) w9 h9)) w9 h9)) w9 h9)) (show l180.length ≤ c179 ∧ l180.length ≤ 9223372036854775807 from by omega) hr221) ?_
  rintro _ w222 ⟨A225, c226, rfl, HQ223, hs227, hk228⟩
  have H224 := bk217 _ _ HQ223
  replace hs227 : SubS 1 A178 c179 l180 A225 c226 r220.xB.ls := hs227
  have hz229 := (hs227).le
  replace hk228 : 0 ≤ r219 ∧ r219 ≤ 255 := hk228
  refine Kz (.pointer (some ⟨g24, 4, none⟩)) ?_
  have H230 := H224.pick [2, 0, 1, 3, 4, 5, 6, 7] (by decide) rfl
  refine sto [.int .i64 r219] 4 H230 Tryz.sizeOf3 ?_
  intro w231 H232
  refine WL.nil (Fin.blockN (Fin.blockN (Fin.then (Wp.region (fw (.int .i64 ((k153 + 1 : Nat) : Int)) (Yl.int (e := IntKind.i64.wrap (((k153 : Nat) : Int) + 1)) yk (by rw [IntWalk.i64_in _ (by omega)]; omega)) (Mz rfl (WL.nil ?_)))))))
  have H233 := H232.pick [2, 0, 1, 3, 4, 5, 6, 7] (by decide) rfl
  exact Fin.round (k153 + 1, r219, z155, k156, k157, k158, k159, k160, k161, k162, k163, k164, b165, s166, s167, A168, c169, l170, A171, c172, d174, l173, A175, c176, l177, A225, c226, r220.xB.ls, r220.xE) ⟨rfl, rfl, rfl, rfl, rfl, rfl, trivial⟩ (dm189.2 ⟨H233, by exact hi191, by exact (SubS.trans hi192 hs227), by omega, by first | omega | exact Nat.zero_le _, by first | omega | exact Nat.zero_le _, by first | omega | exact Nat.zero_le _, by omega, by omega, by omega, by omega, by omega, by omega, by omega, by omega, by omega, et (hq190) (et (congrArg (fun q => r18_R_msg_L0 r35 r100 r120 q z154 z155 k156 k157 k158 k159 k160 k161 k162 k163 k164 b165 s166 s167 l170 l173 l177 l180 z181) hd211) (et (ip h212) (bnd_of hr221)))⟩) (by show r139.length - (k153 + 1) < r139.length - k153; omega)
  refine jF (dF h212) (sr (Kz (.bool (decide (((x209.toNat : Nat) : Int) = 112))) (An rfl ?_)))
  by_cases h234 : ((x209.toNat : Nat) : Int) = 112
  refine jT (dT h234) (Wp.region (Mz rfl ?_))
  have H235 := H185.pick [2, 0, 1, 3, 4, 5, 6, 7] (by decide) rfl
  obtain ⟨⟨r241, r242⟩, hr243⟩ : ∃ q : Int × RT, r18_R_Byte (RT.mk (Ll.mk l180) z181) = q := ⟨_, rfl⟩
  obtain ⟨D236, HP237, ro238, bk239, rr240⟩ := Own.enter1 H235
  refine cl Tryz.call90 (r18_R_Byte_ok _ _ g0 (RT.mk (Ll.mk l180) z181) A178 c179 r241 r242 HP237 (fun w9 h9 => SubS.rds eB_len (by decide) hi192 ((fun w9 h9 => SubS.rds eB_len (by decide) hs128 ((fun w9 h9 => SubS.rds eB_len (by decide) hs108 ((fun w9 h9 => SubS.rds eB_len (by decide) hi90 ((fun w9 h9 => SubS.rds eB_len (by decide) hs43 ((ro238 _ hx0x0) w9 h9)) w9 h9)) w9 h9)) w9 h9)) w9 h9)) (show l180.length ≤ c179 ∧ l180.length ≤ 9223372036854775807 from by omega) hr243) ?_
  rintro _ w244 ⟨A247, c248, rfl, HQ245, hs249, hk250⟩
  have H246 := bk239 _ _ HQ245
  replace hs249 : SubS 1 A178 c179 l180 A247 c248 r242.xB.ls := hs249
  have hz251 := (hs249).le
  replace hk250 : 0 ≤ r241 ∧ r241 ≤ 255 := hk250
  refine Kz (.pointer (some ⟨g24, 5, none⟩)) ?_
  have H252 := H246.pick [2, 0, 1, 3, 4, 5, 6, 7] (by decide) rfl
  refine sto [.int .i64 r241] 5 H252 Tryz.sizeOf3 ?_
  intro w253 H254
  refine WL.nil (Fin.blockN (Fin.blockN (Fin.then (Wp.region (fw (.int .i64 ((k153 + 1 : Nat) : Int)) (Yl.int (e := IntKind.i64.wrap (((k153 : Nat) : Int) + 1)) yk (by rw [IntWalk.i64_in _ (by omega)]; omega)) (Mz rfl (WL.nil ?_)))))))
  have H255 := H254.pick [2, 0, 1, 3, 4, 5, 6, 7] (by decide) rfl
  exact Fin.round (k153 + 1, z154, r241, k156, k157, k158, k159, k160, k161, k162, k163, k164, b165, s166, s167, A168, c169, l170, A171, c172, d174, l173, A175, c176, l177, A247, c248, r242.xB.ls, r242.xE) ⟨rfl, rfl, rfl, rfl, rfl, rfl, trivial⟩ (dm189.2 ⟨H255, by exact hi191, by exact (SubS.trans hi192 hs249), by omega, by first | omega | exact Nat.zero_le _, by first | omega | exact Nat.zero_le _, by first | omega | exact Nat.zero_le _, by omega, by omega, by omega, by omega, by omega, by omega, by omega, by omega, by omega, et (hq190) (et (congrArg (fun q => r18_R_msg_L0 r35 r100 r120 q z154 z155 k156 k157 k158 k159 k160 k161 k162 k163 k164 b165 s166 s167 l170 l173 l177 l180 z181) hd211) (et (iN h212) (et (ip h234) (bnd_of hr243))))⟩) (by show r139.length - (k153 + 1) < r139.length - k153; omega)
  refine jF (dF h234) (sr (Kz (.bool (decide (((x209.toNat : Nat) : Int) = 102))) (An rfl ?_)))
  by_cases h256 : ((x209.toNat : Nat) : Int) = 102
  refine jT (dT h256) (Wp.region (Mz rfl ?_))
  have H257 := H185.pick [2, 0, 1, 3, 4, 5, 6, 7] (by decide) rfl
  obtain ⟨⟨r263, r264⟩, hr265⟩ : ∃ q : Bool × RT, r18_R_Flag (RT.mk (Ll.mk l180) z181) = q := ⟨_, rfl⟩
  obtain ⟨D258, HP259, ro260, bk261, rr262⟩ := Own.enter1 H257
  refine cl Tryz.call91 (r18_R_Flag_ok _ _ g0 (RT.mk (Ll.mk l180) z181) A178 c179 r263 r264 HP259 (fun w9 h9 => SubS.rds eB_len (by decide) hi192 ((fun w9 h9 => SubS.rds eB_len (by decide) hs128 ((fun w9 h9 => SubS.rds eB_len (by decide) hs108 ((fun w9 h9 => SubS.rds eB_len (by decide) hi90 ((fun w9 h9 => SubS.rds eB_len (by decide) hs43 ((ro260 _ hx0x0) w9 h9)) w9 h9)) w9 h9)) w9 h9)) w9 h9)) (show l180.length ≤ c179 ∧ l180.length ≤ 9223372036854775807 from by omega) hr265) ?_
  rintro _ w266 ⟨A269, c270, rfl, HQ267, hs271⟩
  have H268 := bk261 _ _ HQ267
  replace hs271 : SubS 1 A178 c179 l180 A269 c270 r264.xB.ls := hs271
  have hz272 := (hs271).le
  refine Kz (.pointer (some ⟨g24, 15, none⟩)) ?_
  have H273 := H268.pick [2, 0, 1, 3, 4, 5, 6, 7] (by decide) rfl
  refine sto [.bool r263] 15 H273 Tryz.sizeOf4 ?_
  intro w274 H275
  refine WL.nil (Fin.blockN (Fin.blockN (Fin.then (Wp.region (fw (.int .i64 ((k153 + 1 : Nat) : Int)) (Yl.int (e := IntKind.i64.wrap (((k153 : Nat) : Int) + 1)) yk (by rw [IntWalk.i64_in _ (by omega)]; omega)) (Mz rfl (WL.nil ?_)))))))
  have H276 := H275.pick [2, 0, 1, 3, 4, 5, 6, 7] (by decide) rfl
  exact Fin.round (k153 + 1, z154, z155, k156, k157, k158, k159, k160, k161, k162, k163, k164, r263, s166, s167, A168, c169, l170, A171, c172, d174, l173, A175, c176, l177, A269, c270, r264.xB.ls, r264.xE) ⟨rfl, rfl, rfl, rfl, rfl, rfl, trivial⟩ (dm189.2 ⟨H276, by exact hi191, by exact (SubS.trans hi192 hs271), by omega, by first | omega | exact Nat.zero_le _, by first | omega | exact Nat.zero_le _, by first | omega | exact Nat.zero_le _, by omega, by omega, by omega, by omega, by omega, by omega, by omega, by omega, by omega, et (hq190) (et (congrArg (fun q => r18_R_msg_L0 r35 r100 r120 q z154 z155 k156 k157 k158 k159 k160 k161 k162 k163 k164 b165 s166 s167 l170 l173 l177 l180 z181) hd211) (et (iN h212) (et (iN h234) (et (ip h256) (bnd_of hr265)))))⟩) (by show r139.length - (k153 + 1) < r139.length - k153; omega)
  refine jF (dF h256) (sr (Kz (.bool (decide (((x209.toNat : Nat) : Int) = 114))) (An rfl ?_)))
  by_cases h277 : ((x209.toNat : Nat) : Int) = 114
  refine jT (dT h277) (sr (Mz rfl ?_))
  have H278 := H185.pick [2, 0, 1, 3, 4, 5, 6, 7] (by decide) rfl
  obtain ⟨⟨r284, r285⟩, hr286⟩ : ∃ q : (List UInt8) × RT, r18_R_Text (RT.mk (Ll.mk l180) z181) = q := ⟨_, rfl⟩
  obtain ⟨D279, HP280, ro281, bk282, rr283⟩ := Own.enter1 H278
  refine cl Tryz.call92 (r18_R_Text_ok _ _ g0 (RT.mk (Ll.mk l180) z181) A178 c179 r284 r285 HP280 (fun w9 h9 => SubS.rds eB_len (by decide) hi192 ((fun w9 h9 => SubS.rds eB_len (by decide) hs128 ((fun w9 h9 => SubS.rds eB_len (by decide) hs108 ((fun w9 h9 => SubS.rds eB_len (by decide) hi90 ((fun w9 h9 => SubS.rds eB_len (by decide) hs43 ((ro281 _ hx0x0) w9 h9)) w9 h9)) w9 h9)) w9 h9)) w9 h9)) (show l180.length ≤ c179 ∧ l180.length ≤ 9223372036854775807 from by omega) hr286) ?_
  rintro _ w287 ⟨A290, c291, rfl, HQ288, hs292⟩
  have H289 := bk282 _ _ HQ288
  replace hs292 : SubS 1 A178 c179 l180 A290 c291 r285.xB.ls := hs292
  have hz293 := (hs292).le
  refine Kz (.pointer (some ⟨g24, 16, none⟩)) (Kz (.pointer (some ⟨g24, 16, none⟩)) ?_)
  have H294 := H289.pick [2, 0, 1, 3, 4, 5, 6, 7] (by decide) rfl
  refine sto [.string ⟨List.toArray r284⟩] 16 H294 Tryz.sizeOf9 ?_
  intro w295 H296
  refine nt (Wp.region (Mz rfl ?_))
  have H297 := H296.pick [1, 0, 2, 3, 4, 5, 6, 7] (by decide) rfl
  obtain ⟨⟨r303, r304⟩, hr305⟩ : ∃ q : (List UInt8) × RT, r18_R_Text r285 = q := ⟨_, rfl⟩
  obtain ⟨D298, HP299, ro300, bk301, rr302⟩ := Own.enter1 H297
  refine cl Tryz.call92 (r18_R_Text_ok _ _ g0 r285 A290 c291 r303 r304 HP299 (fun w9 h9 => SubS.rds eB_len (by decide) hs292 ((fun w9 h9 => SubS.rds eB_len (by decide) hi192 ((fun w9 h9 => SubS.rds eB_len (by decide) hs128 ((fun w9 h9 => SubS.rds eB_len (by decide) hs108 ((fun w9 h9 => SubS.rds eB_len (by decide) hi90 ((fun w9 h9 => SubS.rds eB_len (by decide) hs43 ((ro300 _ hx0x0) w9 h9)) w9 h9)) w9 h9)) w9 h9)) w9 h9)) w9 h9)) (show r285.xB.ls.length ≤ c291 ∧ r285.xB.ls.length ≤ 9223372036854775807 from by omega) hr305) ?_
  rintro _ w306 ⟨A309, c310, rfl, HQ307, hs311⟩
  have H308 := bk301 _ _ HQ307
  replace hs311 : SubS 1 A290 c291 r285.xB.ls A309 c310 r304.xB.ls := hs311
  have hz312 := (hs311).le
  refine Kz (.pointer (some ⟨g24, 16, none⟩)) (Kz (.pointer (some ⟨g24, 17, none⟩)) ?_)
  have H313 := H308.pick [1, 0, 2, 3, 4, 5, 6, 7] (by decide) rfl
  refine sto [.string ⟨List.toArray r303⟩] 17 H313 Tryz.sizeOf9 ?_
  intro w314 H315
  refine WL.nil (Fin.blockN (Fin.blockN (Fin.then (Wp.region (fw (.int .i64 ((k153 + 1 : Nat) : Int)) (Yl.int (e := IntKind.i64.wrap (((k153 : Nat) : Int) + 1)) yk (by rw [IntWalk.i64_in _ (by omega)]; omega)) (Mz rfl (WL.nil ?_)))))))
  have H316 := H315.pick [2, 0, 1, 3, 4, 5, 6, 7] (by decide) rfl
  exact Fin.round (k153 + 1, z154, z155, k156, k157, k158, k159, k160, k161, k162, k163, k164, b165, r284, r303, A168, c169, l170, A171, c172, d174, l173, A175, c176, l177, A309, c310, r304.xB.ls, r304.xE) ⟨rfl, rfl, rfl, rfl, rfl, rfl, trivial⟩ (dm189.2 ⟨H316, by exact hi191, by exact (SubS.trans (SubS.trans hi192 hs292) hs311), by omega, by first | omega | exact Nat.zero_le _, by first | omega | exact Nat.zero_le _, by first | omega | exact Nat.zero_le _, by omega, by omega, by omega, by omega, by omega, by omega, by omega, by omega, by omega, et (hq190) (et (congrArg (fun q => r18_R_msg_L0 r35 r100 r120 q z154 z155 k156 k157 k158 k159 k160 k161 k162 k163 k164 b165 s166 s167 l170 l173 l177 l180 z181) hd211) (et (iN h212) (et (iN h234) (et (iN h256) (et (ip h277) (et (bnd_of hr286) (bnd_of hr305)))))))⟩) (by show r139.length - (k153 + 1) < r139.length - k153; omega)
  refine jF (dF h277) (sr (Kz (.bool (decide (((x209.toNat : Nat) : Int) = 111))) (An rfl ?_)))
  by_cases h317 : ((x209.toNat : Nat) : Int) = 111
  refine jT (dT h317) (Wp.region (Mz rfl ?_))
  have H318 := H185.pick [2, 0, 1, 3, 4, 5, 6, 7] (by decide) rfl
  obtain ⟨⟨r324, r325⟩, hr326⟩ : ∃ q : (List OpD) × RT, r18_R_Ops (RT.mk (Ll.mk l180) z181) = q := ⟨_, rfl⟩
  obtain ⟨D319, HP320, ro321, bk322, rr323⟩ := Own.enter1 H318
  refine cl Tryz.call93 (r18_R_Ops_ok _ _ g0 (RT.mk (Ll.mk l180) z181) A178 c179 r324 r325 HP320 (fun w9 h9 => SubS.rds eB_len (by decide) hi192 ((fun w9 h9 => SubS.rds eB_len (by decide) hs128 ((fun w9 h9 => SubS.rds eB_len (by decide) hs108 ((fun w9 h9 => SubS.rds eB_len (by decide) hi90 ((fun w9 h9 => SubS.rds eB_len (by decide) hs43 ((ro321 _ hx0x0) w9 h9)) w9 h9)) w9 h9)) w9 h9)) w9 h9)) (show l180.length ≤ c179 ∧ l180.length ≤ 9223372036854775807 from by omega) hr326) ?_
  rintro _ w327 ⟨A330, c331, A332, c333, rfl, HQ328, hs334, hk335⟩
  have H329 := bk322 _ _ HQ328
  replace hs334 : SubS 1 A178 c179 l180 A332 c333 r325.xB.ls := hs334
  have hz336 := (hs334).le
  have hb337 := H329.rowC (i := 0) rfl
  replace hk335 : r324.length ≤ 1000 := hk335
  refine Kz (.pointer (some ⟨g24, 18, none⟩)) ?_
  have H338 := H329.pick [3, 0, 1, 2, 4, 5, 6, 7, 8] (by decide) rfl
  refine sto [.slice A330 r324.length c331] 18 H338 Tryz.sizeOf25 ?_
  intro w339 H340
  refine WL.nil (Fin.blockN (Fin.blockN (Fin.then (Wp.region (fw (.int .i64 ((k153 + 1 : Nat) : Int)) (Yl.int (e := IntKind.i64.wrap (((k153 : Nat) : Int) + 1)) yk (by rw [IntWalk.i64_in _ (by omega)]; omega)) (Mz rfl (WL.nil ?_)))))))
  have H341 := H340.pick [3, 0, 2, 4, 1, 6, 7, 8] (by decide) rfl
  exact Fin.round (k153 + 1, z154, z155, k156, k157, k158, k159, k160, k161, k162, k163, k164, b165, s166, s167, A330, c331, r324, A171, c172, d174, l173, A175, c176, l177, A332, c333, r325.xB.ls, r325.xE) ⟨rfl, rfl, rfl, rfl, rfl, rfl, trivial⟩ (dm189.2 ⟨H341, by exact hi191, by exact (SubS.trans hi192 hs334), by omega, by first | omega | exact Nat.zero_le _, by first | omega | exact Nat.zero_le _, by first | omega | exact Nat.zero_le _, by omega, by omega, by omega, by omega, by omega, by omega, by omega, by omega, by omega, et (hq190) (et (congrArg (fun q => r18_R_msg_L0 r35 r100 r120 q z154 z155 k156 k157 k158 k159 k160 k161 k162 k163 k164 b165 s166 s167 l170 l173 l177 l180 z181) hd211) (et (iN h212) (et (iN h234) (et (iN h256) (et (iN h277) (et (ip h317) (bnd_of hr326)))))))⟩) (by show r139.length - (k153 + 1) < r139.length - k153; omega)
  refine jF (dF h317) (sr (Kz (.bool (decide (((x209.toNat : Nat) : Int) = 115))) (An rfl ?_)))
  by_cases h342 : ((x209.toNat : Nat) : Int) = 115
  refine jT (dT h342) (Wp.region (Mz rfl ?_))
  have H343 := H185.pick [2, 0, 1, 3, 4, 5, 6, 7] (by decide) rfl
  obtain ⟨⟨r349, r350⟩, hr351⟩ : ∃ q : (List ResultT) × RT, r18_R_Res (RT.mk (Ll.mk l180) z181) = q := ⟨_, rfl⟩
  obtain ⟨D344, HP345, ro346, bk347, rr348⟩ := Own.enter1 H343
  refine cl Tryz.call94 (r18_R_Res_ok _ _ g0 (RT.mk (Ll.mk l180) z181) A178 c179 r349 r350 HP345 (fun w9 h9 => SubS.rds eB_len (by decide) hi192 ((fun w9 h9 => SubS.rds eB_len (by decide) hs128 ((fun w9 h9 => SubS.rds eB_len (by decide) hs108 ((fun w9 h9 => SubS.rds eB_len (by decide) hi90 ((fun w9 h9 => SubS.rds eB_len (by decide) hs43 ((ro346 _ hx0x0) w9 h9)) w9 h9)) w9 h9)) w9 h9)) w9 h9)) (show l180.length ≤ c179 ∧ l180.length ≤ 9223372036854775807 from by omega) hr351) ?_
  rintro _ w352 ⟨A355, c356, d357, A359, c360, rfl, HQ353, hd358, hs361, hk362⟩
  have H354 := bk347 _ _ HQ353
  replace hs361 : SubS 1 A178 c179 l180 A359 c360 r350.xB.ls := hs361
  have hz363 := (hs361).le
  have hl364 := abs_len hd358
  have hb365 := H354.rowC (i := 0) rfl
  replace hk362 : r349.length ≤ 1000 := hk362
  refine Kz (.pointer (some ⟨g24, 19, none⟩)) ?_
  have H366 := H354.pick [4, 0, 1, 2, 3, 5, 6, 7, 8, 9] (by decide) rfl
  refine sto [.slice A355 r349.length c356] 19 H366 Tryz.sizeOf26 ?_
  intro w367 H368
  refine WL.nil (Fin.blockN (Fin.blockN (Fin.then (Wp.region (fw (.int .i64 ((k153 + 1 : Nat) : Int)) (Yl.int (e := IntKind.i64.wrap (((k153 : Nat) : Int) + 1)) yk (by rw [IntWalk.i64_in _ (by omega)]; omega)) (Mz rfl (WL.nil ?_)))))))
  have H369 := H368.pick [4, 0, 3, 5, 6, 1, 2, 9] (by decide) rfl
  exact Fin.round (k153 + 1, z154, z155, k156, k157, k158, k159, k160, k161, k162, k163, k164, b165, s166, s167, A168, c169, l170, A355, c356, d357, r349, A175, c176, l177, A359, c360, r350.xB.ls, r350.xE) ⟨rfl, rfl, rfl, rfl, rfl, rfl, trivial⟩ (dm189.2 ⟨H369, by exact hd358, by exact (SubS.trans hi192 hs361), by omega, by first | omega | exact Nat.zero_le _, by first | omega | exact Nat.zero_le _, by first | omega | exact Nat.zero_le _, by omega, by omega, by omega, by omega, by omega, by omega, by omega, by omega, by omega, et (hq190) (et (congrArg (fun q => r18_R_msg_L0 r35 r100 r120 q z154 z155 k156 k157 k158 k159 k160 k161 k162 k163 k164 b165 s166 s167 l170 l173 l177 l180 z181) hd211) (et (iN h212) (et (iN h234) (et (iN h256) (et (iN h277) (et (iN h317) (et (ip h342) (bnd_of hr351))))))))⟩) (by show r139.length - (k153 + 1) < r139.length - k153; omega)
  refine jF (dF h342) (sr (Kz (.bool (decide (((x209.toNat : Nat) : Int) = 119))) (An rfl ?_)))
  by_cases h370 : ((x209.toNat : Nat) : Int) = 119
  refine jT (dT h370) (Wp.region (Mz rfl ?_))
  have H371 := H185.pick [2, 0, 1, 3, 4, 5, 6, 7] (by decide) rfl
  obtain ⟨⟨r377, r378⟩, hr379⟩ : ∃ q : (List OwnerD) × RT, r18_R_Owners (RT.mk (Ll.mk l180) z181) = q := ⟨_, rfl⟩
  obtain ⟨D372, HP373, ro374, bk375, rr376⟩ := Own.enter1 H371
  refine cl Tryz.call95 (r18_R_Owners_ok _ _ g0 (RT.mk (Ll.mk l180) z181) A178 c179 r377 r378 HP373 (fun w9 h9 => SubS.rds eB_len (by decide) hi192 ((fun w9 h9 => SubS.rds eB_len (by decide) hs128 ((fun w9 h9 => SubS.rds eB_len (by decide) hs108 ((fun w9 h9 => SubS.rds eB_len (by decide) hi90 ((fun w9 h9 => SubS.rds eB_len (by decide) hs43 ((ro374 _ hx0x0) w9 h9)) w9 h9)) w9 h9)) w9 h9)) w9 h9)) (show l180.length ≤ c179 ∧ l180.length ≤ 9223372036854775807 from by omega) hr379) ?_
  rintro _ w380 ⟨A383, c384, A385, c386, rfl, HQ381, hs387, hk388⟩
  have H382 := bk375 _ _ HQ381
  replace hs387 : SubS 1 A178 c179 l180 A385 c386 r378.xB.ls := hs387
  have hz389 := (hs387).le
  have hb390 := H382.rowC (i := 0) rfl
  replace hk388 : r377.length ≤ 1000 := hk388
  refine Kz (.pointer (some ⟨g24, 20, none⟩)) ?_
  have H391 := H382.pick [3, 0, 1, 2, 4, 5, 6, 7, 8] (by decide) rfl
  refine sto [.slice A383 r377.length c384] 20 H391 Tryz.sizeOf27 ?_
  intro w392 H393
  refine WL.nil (Fin.blockN (Fin.blockN (Fin.then (Wp.region (fw (.int .i64 ((k153 + 1 : Nat) : Int)) (Yl.int (e := IntKind.i64.wrap (((k153 : Nat) : Int) + 1)) yk (by rw [IntWalk.i64_in _ (by omega)]; omega)) (Mz rfl (WL.nil ?_)))))))
  have H394 := H393.pick [3, 0, 2, 4, 5, 6, 7, 1] (by decide) rfl
  exact Fin.round (k153 + 1, z154, z155, k156, k157, k158, k159, k160, k161, k162, k163, k164, b165, s166, s167, A168, c169, l170, A171, c172, d174, l173, A383, c384, r377, A385, c386, r378.xB.ls, r378.xE) ⟨rfl, rfl, rfl, rfl, rfl, rfl, trivial⟩ (dm189.2 ⟨H394, by exact hi191, by exact (SubS.trans hi192 hs387), by omega, by first | omega | exact Nat.zero_le _, by first | omega | exact Nat.zero_le _, by first | omega | exact Nat.zero_le _, by omega, by omega, by omega, by omega, by omega, by omega, by omega, by omega, by omega, et (hq190) (et (congrArg (fun q => r18_R_msg_L0 r35 r100 r120 q z154 z155 k156 k157 k158 k159 k160 k161 k162 k163 k164 b165 s166 s167 l170 l173 l177 l180 z181) hd211) (et (iN h212) (et (iN h234) (et (iN h256) (et (iN h277) (et (iN h317) (et (iN h342) (et (ip h370) (bnd_of hr379)))))))))⟩) (by show r139.length - (k153 + 1) < r139.length - k153; omega)
  refine jF (dF h370) (sr (Mz rfl ?_))
  have H395 := H185.pick [2, 0, 1, 3, 4, 5, 6, 7] (by decide) rfl
  obtain ⟨⟨r401, r402⟩, hr403⟩ : ∃ q : Nat × RT, r18_R_Num (RT.mk (Ll.mk l180) z181) = q := ⟨_, rfl⟩
  obtain ⟨D396, HP397, ro398, bk399, rr400⟩ := Own.enter1 H395
  refine cl Tryz.call96 (r18_R_Num_ok _ _ g0 (RT.mk (Ll.mk l180) z181) A178 c179 r401 r402 HP397 (fun w9 h9 => SubS.rds eB_len (by decide) hi192 ((fun w9 h9 => SubS.rds eB_len (by decide) hs128 ((fun w9 h9 => SubS.rds eB_len (by decide) hs108 ((fun w9 h9 => SubS.rds eB_len (by decide) hi90 ((fun w9 h9 => SubS.rds eB_len (by decide) hs43 ((ro398 _ hx0x0) w9 h9)) w9 h9)) w9 h9)) w9 h9)) w9 h9)) (show l180.length ≤ c179 ∧ l180.length ≤ 9223372036854775807 from by omega) hr403) ?_
  rintro _ w404 ⟨A407, c408, rfl, HQ405, hs409, hk410⟩
  have H406 := bk399 _ _ HQ405
  replace hs409 : SubS 1 A178 c179 l180 A407 c408 r402.xB.ls := hs409
  have hz411 := (hs409).le
  replace hk410 : r401 ≤ 18446744073709551615 := hk410
  refine An rfl (Wp.region (Mz rfl ?_))
  refine WL.do rfl (Do.call Tryz.call47 rfl ?_ (fun _ _ k => k))
  refine Calls.body (args := [.pointer (some ⟨g24, 0, none⟩), .int .u8 ((x209.toNat : Nat) : Int)]) Tryz.func47 rfl rfl rfl ?_
  show Wp _ _ _ [(0, .pointer (some ⟨g24, 0, none⟩)), (1, .int .u8 ((x209.toNat : Nat) : Int))] _ _
  refine sr (An rfl (Wp.seq (sr (Mn rfl (Wp.block (sr (Kz (.bool (decide (((x209.toNat : Nat) : Int) = 113))) (An rfl ?_))))))))
  by_cases h412 : ((x209.toNat : Nat) : Int) = 113
  refine jT (dT h412) (sr (Mz rfl (Kz (.pointer (some ⟨g24, 0, none⟩)) (Kz (.pointer (some ⟨g24, 6, none⟩)) (An rfl (Wp.ret (Fin.blockR (Fin.thenR (rs (Mz rfl (Kz (.pointer (some ⟨g24, 6, none⟩)) ?_)))))))))))
  have H413 := H406.pick [2, 0, 1, 3, 4, 5, 6, 7] (by decide) rfl
  refine sto [.int .u64 ((r401 : Nat) : Int)] 6 H413 Tryz.sizeOf22 ?_
  intro w414 H415
  refine WL.nil (Fin.blockN (Fin.blockN (Fin.then (Wp.region (fw (.int .i64 ((k153 + 1 : Nat) : Int)) (Yl.int (e := IntKind.i64.wrap (((k153 : Nat) : Int) + 1)) yk (by rw [IntWalk.i64_in _ (by omega)]; omega)) (Mz rfl (WL.nil ?_)))))))
  have H416 := H415.pick [2, 0, 1, 3, 4, 5, 6, 7] (by decide) rfl
  exact Fin.round (k153 + 1, z154, z155, r401, k157, k158, k159, k160, k161, k162, k163, k164, b165, s166, s167, A168, c169, l170, A171, c172, d174, l173, A175, c176, l177, A407, c408, r402.xB.ls, r402.xE) ⟨rfl, rfl, rfl, rfl, rfl, rfl, trivial⟩ (dm189.2 ⟨H416, by exact hi191, by exact (SubS.trans hi192 hs409), by omega, by first | omega | exact Nat.zero_le _, by first | omega | exact Nat.zero_le _, by first | omega | exact Nat.zero_le _, by omega, by omega, by omega, by omega, by omega, by omega, by omega, by omega, by omega, et (hq190) (et (congrArg (fun q => r18_R_msg_L0 r35 r100 r120 q z154 z155 k156 k157 k158 k159 k160 k161 k162 k163 k164 b165 s166 s167 l170 l173 l177 l180 z181) hd211) (et (iN h212) (et (iN h234) (et (iN h256) (et (iN h277) (et (iN h317) (et (iN h342) (et (iN h370) (et (bnd_of hr403) (ip h412))))))))))⟩) (by show r139.length - (k153 + 1) < r139.length - k153; omega)
  refine jF (dF h412) (sr (Kz (.bool (decide (((x209.toNat : Nat) : Int) = 98))) (An rfl ?_)))
  by_cases h417 : ((x209.toNat : Nat) : Int) = 98
  refine jT (dT h417) (sr (Mz rfl (Kz (.pointer (some ⟨g24, 0, none⟩)) (Kz (.pointer (some ⟨g24, 7, none⟩)) (An rfl (Wp.ret (Fin.blockR (Fin.thenR (rs (Mz rfl (Kz (.pointer (some ⟨g24, 7, none⟩)) ?_)))))))))))
  have H418 := H406.pick [2, 0, 1, 3, 4, 5, 6, 7] (by decide) rfl
  refine sto [.int .u64 ((r401 : Nat) : Int)] 7 H418 Tryz.sizeOf22 ?_
  intro w419 H420
  refine WL.nil (Fin.blockN (Fin.blockN (Fin.then (Wp.region (fw (.int .i64 ((k153 + 1 : Nat) : Int)) (Yl.int (e := IntKind.i64.wrap (((k153 : Nat) : Int) + 1)) yk (by rw [IntWalk.i64_in _ (by omega)]; omega)) (Mz rfl (WL.nil ?_)))))))
  have H421 := H420.pick [2, 0, 1, 3, 4, 5, 6, 7] (by decide) rfl
  exact Fin.round (k153 + 1, z154, z155, k156, r401, k158, k159, k160, k161, k162, k163, k164, b165, s166, s167, A168, c169, l170, A171, c172, d174, l173, A175, c176, l177, A407, c408, r402.xB.ls, r402.xE) ⟨rfl, rfl, rfl, rfl, rfl, rfl, trivial⟩ (dm189.2 ⟨H421, by exact hi191, by exact (SubS.trans hi192 hs409), by omega, by first | omega | exact Nat.zero_le _, by first | omega | exact Nat.zero_le _, by first | omega | exact Nat.zero_le _, by omega, by omega, by omega, by omega, by omega, by omega, by omega, by omega, by omega, et (hq190) (et (congrArg (fun q => r18_R_msg_L0 r35 r100 r120 q z154 z155 k156 k157 k158 k159 k160 k161 k162 k163 k164 b165 s166 s167 l170 l173 l177 l180 z181) hd211) (et (iN h212) (et (iN h234) (et (iN h256) (et (iN h277) (et (iN h317) (et (iN h342) (et (iN h370) (et (bnd_of hr403) (et (iN h412) (ip h417)))))))))))⟩) (by show r139.length - (k153 + 1) < r139.length - k153; omega)
  refine jF (dF h417) (sr (Kz (.bool (decide (((x209.toNat : Nat) : Int) = 116))) (An rfl ?_)))
  by_cases h422 : ((x209.toNat : Nat) : Int) = 116
  refine jT (dT h422) (sr (Mz rfl (Kz (.pointer (some ⟨g24, 0, none⟩)) (Kz (.pointer (some ⟨g24, 8, none⟩)) (An rfl (Wp.ret (Fin.blockR (Fin.thenR (rs (Mz rfl (Kz (.pointer (some ⟨g24, 8, none⟩)) ?_)))))))))))
  have H423 := H406.pick [2, 0, 1, 3, 4, 5, 6, 7] (by decide) rfl
  refine sto [.int .u64 ((r401 : Nat) : Int)] 8 H423 Tryz.sizeOf22 ?_
  intro w424 H425
  refine WL.nil (Fin.blockN (Fin.blockN (Fin.then (Wp.region (fw (.int .i64 ((k153 + 1 : Nat) : Int)) (Yl.int (e := IntKind.i64.wrap (((k153 : Nat) : Int) + 1)) yk (by rw [IntWalk.i64_in _ (by omega)]; omega)) (Mz rfl (WL.nil ?_)))))))
  have H426 := H425.pick [2, 0, 1, 3, 4, 5, 6, 7] (by decide) rfl
  exact Fin.round (k153 + 1, z154, z155, k156, k157, r401, k159, k160, k161, k162, k163, k164, b165, s166, s167, A168, c169, l170, A171, c172, d174, l173, A175, c176, l177, A407, c408, r402.xB.ls, r402.xE) ⟨rfl, rfl, rfl, rfl, rfl, rfl, trivial⟩ (dm189.2 ⟨H426, by exact hi191, by exact (SubS.trans hi192 hs409), by omega, by first | omega | exact Nat.zero_le _, by first | omega | exact Nat.zero_le _, by first | omega | exact Nat.zero_le _, by omega, by omega, by omega, by omega, by omega, by omega, by omega, by omega, by omega, et (hq190) (et (congrArg (fun q => r18_R_msg_L0 r35 r100 r120 q z154 z155 k156 k157 k158 k159 k160 k161 k162 k163 k164 b165 s166 s167 l170 l173 l177 l180 z181) hd211) (et (iN h212) (et (iN h234) (et (iN h256) (et (iN h277) (et (iN h317) (et (iN h342) (et (iN h370) (et (bnd_of hr403) (et (iN h412) (et (iN h417) (ip h422))))))))))))⟩) (by show r139.length - (k153 + 1) < r139.length - k153; omega)
  refine jF (dF h422) (sr (Kz (.bool (decide (((x209.toNat : Nat) : Int) = 108))) (An rfl ?_)))
  by_cases h427 : ((x209.toNat : Nat) : Int) = 108
  refine jT (dT h427) (sr (Mz rfl (Kz (.pointer (some ⟨g24, 0, none⟩)) (Kz (.pointer (some ⟨g24, 9, none⟩)) (An rfl (Wp.ret (Fin.blockR (Fin.thenR (rs (Mz rfl (Kz (.pointer (some ⟨g24, 9, none⟩)) ?_)))))))))))
  have H428 := H406.pick [2, 0, 1, 3, 4, 5, 6, 7] (by decide) rfl
  refine sto [.int .u64 ((r401 : Nat) : Int)] 9 H428 Tryz.sizeOf22 ?_
  intro w429 H430
  refine WL.nil (Fin.blockN (Fin.blockN (Fin.then (Wp.region (fw (.int .i64 ((k153 + 1 : Nat) : Int)) (Yl.int (e := IntKind.i64.wrap (((k153 : Nat) : Int) + 1)) yk (by rw [IntWalk.i64_in _ (by omega)]; omega)) (Mz rfl (WL.nil ?_)))))))
  have H431 := H430.pick [2, 0, 1, 3, 4, 5, 6, 7] (by decide) rfl
  exact Fin.round (k153 + 1, z154, z155, k156, k157, k158, r401, k160, k161, k162, k163, k164, b165, s166, s167, A168, c169, l170, A171, c172, d174, l173, A175, c176, l177, A407, c408, r402.xB.ls, r402.xE) ⟨rfl, rfl, rfl, rfl, rfl, rfl, trivial⟩ (dm189.2 ⟨H431, by exact hi191, by exact (SubS.trans hi192 hs409), by omega, by first | omega | exact Nat.zero_le _, by first | omega | exact Nat.zero_le _, by first | omega | exact Nat.zero_le _, by omega, by omega, by omega, by omega, by omega, by omega, by omega, by omega, by omega, et (hq190) (et (congrArg (fun q => r18_R_msg_L0 r35 r100 r120 q z154 z155 k156 k157 k158 k159 k160 k161 k162 k163 k164 b165 s166 s167 l170 l173 l177 l180 z181) hd211) (et (iN h212) (et (iN h234) (et (iN h256) (et (iN h277) (et (iN h317) (et (iN h342) (et (iN h370) (et (bnd_of hr403) (et (iN h412) (et (iN h417) (et (iN h422) (ip h427)))))))))))))⟩) (by show r139.length - (k153 + 1) < r139.length - k153; omega)
  refine jF (dF h427) (sr (Kz (.bool (decide (((x209.toNat : Nat) : Int) = 118))) (An rfl ?_)))
  by_cases h432 : ((x209.toNat : Nat) : Int) = 118
  refine jT (dT h432) (sr (Mz rfl (Kz (.pointer (some ⟨g24, 0, none⟩)) (Kz (.pointer (some ⟨g24, 10, none⟩)) (An rfl (Wp.ret (Fin.blockR (Fin.thenR (rs (Mz rfl (Kz (.pointer (some ⟨g24, 10, none⟩)) ?_)))))))))))
  have H433 := H406.pick [2, 0, 1, 3, 4, 5, 6, 7] (by decide) rfl
  refine sto [.int .u64 ((r401 : Nat) : Int)] 10 H433 Tryz.sizeOf22 ?_
  intro w434 H435
  refine WL.nil (Fin.blockN (Fin.blockN (Fin.then (Wp.region (fw (.int .i64 ((k153 + 1 : Nat) : Int)) (Yl.int (e := IntKind.i64.wrap (((k153 : Nat) : Int) + 1)) yk (by rw [IntWalk.i64_in _ (by omega)]; omega)) (Mz rfl (WL.nil ?_)))))))
  have H436 := H435.pick [2, 0, 1, 3, 4, 5, 6, 7] (by decide) rfl
  exact Fin.round (k153 + 1, z154, z155, k156, k157, k158, k159, r401, k161, k162, k163, k164, b165, s166, s167, A168, c169, l170, A171, c172, d174, l173, A175, c176, l177, A407, c408, r402.xB.ls, r402.xE) ⟨rfl, rfl, rfl, rfl, rfl, rfl, trivial⟩ (dm189.2 ⟨H436, by exact hi191, by exact (SubS.trans hi192 hs409), by omega, by first | omega | exact Nat.zero_le _, by first | omega | exact Nat.zero_le _, by first | omega | exact Nat.zero_le _, by omega, by omega, by omega, by omega, by omega, by omega, by omega, by omega, by omega, et (hq190) (et (congrArg (fun q => r18_R_msg_L0 r35 r100 r120 q z154 z155 k156 k157 k158 k159 k160 k161 k162 k163 k164 b165 s166 s167 l170 l173 l177 l180 z181) hd211) (et (iN h212) (et (iN h234) (et (iN h256) (et (iN h277) (et (iN h317) (et (iN h342) (et (iN h370) (et (bnd_of hr403) (et (iN h412) (et (iN h417) (et (iN h422) (et (iN h427) (ip h432))))))))))))))⟩) (by show r139.length - (k153 + 1) < r139.length - k153; omega)
  refine jF (dF h432) (sr (Kz (.bool (decide (((x209.toNat : Nat) : Int) = 101))) (An rfl ?_)))
  by_cases h437 : ((x209.toNat : Nat) : Int) = 101
  refine jT (dT h437) (sr (Mz rfl (Kz (.pointer (some ⟨g24, 0, none⟩)) (Kz (.pointer (some ⟨g24, 11, none⟩)) (An rfl (Wp.ret (Fin.blockR (Fin.thenR (rs (Mz rfl (Kz (.pointer (some ⟨g24, 11, none⟩)) ?_)))))))))))
  have H438 := H406.pick [2, 0, 1, 3, 4, 5, 6, 7] (by decide) rfl
  refine sto [.int .u64 ((r401 : Nat) : Int)] 11 H438 Tryz.sizeOf22 ?_
  intro w439 H440
  refine WL.nil (Fin.blockN (Fin.blockN (Fin.then (Wp.region (fw (.int .i64 ((k153 + 1 : Nat) : Int)) (Yl.int (e := IntKind.i64.wrap (((k153 : Nat) : Int) + 1)) yk (by rw [IntWalk.i64_in _ (by omega)]; omega)) (Mz rfl (WL.nil ?_)))))))
  have H441 := H440.pick [2, 0, 1, 3, 4, 5, 6, 7] (by decide) rfl
  exact Fin.round (k153 + 1, z154, z155, k156, k157, k158, k159, k160, r401, k162, k163, k164, b165, s166, s167, A168, c169, l170, A171, c172, d174, l173, A175, c176, l177, A407, c408, r402.xB.ls, r402.xE) ⟨rfl, rfl, rfl, rfl, rfl, rfl, trivial⟩ (dm189.2 ⟨H441, by exact hi191, by exact (SubS.trans hi192 hs409), by omega, by first | omega | exact Nat.zero_le _, by first | omega | exact Nat.zero_le _, by first | omega | exact Nat.zero_le _, by omega, by omega, by omega, by omega, by omega, by omega, by omega, by omega, by omega, et (hq190) (et (congrArg (fun q => r18_R_msg_L0 r35 r100 r120 q z154 z155 k156 k157 k158 k159 k160 k161 k162 k163 k164 b165 s166 s167 l170 l173 l177 l180 z181) hd211) (et (iN h212) (et (iN h234) (et (iN h256) (et (iN h277) (et (iN h317) (et (iN h342) (et (iN h370) (et (bnd_of hr403) (et (iN h412) (et (iN h417) (et (iN h422) (et (iN h427) (et (iN h432) (ip h437)))))))))))))))⟩) (by show r139.length - (k153 + 1) < r139.length - k153; omega)
  refine jF (dF h437) (sr (Kz (.bool (decide (((x209.toNat : Nat) : Int) = 109))) (An rfl ?_)))
  by_cases h442 : ((x209.toNat : Nat) : Int) = 109
  refine jT (dT h442) (sr (Mz rfl (Kz (.pointer (some ⟨g24, 0, none⟩)) (Kz (.pointer (some ⟨g24, 12, none⟩)) (An rfl (Wp.ret (Fin.blockR (Fin.thenR (rs (Mz rfl (Kz (.pointer (some ⟨g24, 12, none⟩)) ?_)))))))))))
  have H443 := H406.pick [2, 0, 1, 3, 4, 5, 6, 7] (by decide) rfl
  refine sto [.int .u64 ((r401 : Nat) : Int)] 12 H443 Tryz.sizeOf22 ?_
  intro w444 H445
  refine WL.nil (Fin.blockN (Fin.blockN (Fin.then (Wp.region (fw (.int .i64 ((k153 + 1 : Nat) : Int)) (Yl.int (e := IntKind.i64.wrap (((k153 : Nat) : Int) + 1)) yk (by rw [IntWalk.i64_in _ (by omega)]; omega)) (Mz rfl (WL.nil ?_)))))))
  have H446 := H445.pick [2, 0, 1, 3, 4, 5, 6, 7] (by decide) rfl
  exact Fin.round (k153 + 1, z154, z155, k156, k157, k158, k159, k160, k161, r401, k163, k164, b165, s166, s167, A168, c169, l170, A171, c172, d174, l173, A175, c176, l177, A407, c408, r402.xB.ls, r402.xE) ⟨rfl, rfl, rfl, rfl, rfl, rfl, trivial⟩ (dm189.2 ⟨H446, by exact hi191, by exact (SubS.trans hi192 hs409), by omega, by first | omega | exact Nat.zero_le _, by first | omega | exact Nat.zero_le _, by first | omega | exact Nat.zero_le _, by omega, by omega, by omega, by omega, by omega, by omega, by omega, by omega, by omega, et (hq190) (et (congrArg (fun q => r18_R_msg_L0 r35 r100 r120 q z154 z155 k156 k157 k158 k159 k160 k161 k162 k163 k164 b165 s166 s167 l170 l173 l177 l180 z181) hd211) (et (iN h212) (et (iN h234) (et (iN h256) (et (iN h277) (et (iN h317) (et (iN h342) (et (iN h370) (et (bnd_of hr403) (et (iN h412) (et (iN h417) (et (iN h422) (et (iN h427) (et (iN h432) (et (iN h437) (ip h442))))))))))))))))⟩) (by show r139.length - (k153 + 1) < r139.length - k153; omega)
  refine jF (dF h442) (sr (Kz (.bool (decide (((x209.toNat : Nat) : Int) = 97))) (An rfl ?_)))
  by_cases h447 : ((x209.toNat : Nat) : Int) = 97
  refine jT (dT h447) (sr (Mz rfl (Kz (.pointer (some ⟨g24, 0, none⟩)) (Kz (.pointer (some ⟨g24, 13, none⟩)) (An rfl (Wp.ret (Fin.blockR (Fin.thenR (rs (Mz rfl (Kz (.pointer (some ⟨g24, 13, none⟩)) ?_)))))))))))
  have H448 := H406.pick [2, 0, 1, 3, 4, 5, 6, 7] (by decide) rfl
  refine sto [.int .u64 ((r401 : Nat) : Int)] 13 H448 Tryz.sizeOf22 ?_
  intro w449 H450
  refine WL.nil (Fin.blockN (Fin.blockN (Fin.then (Wp.region (fw (.int .i64 ((k153 + 1 : Nat) : Int)) (Yl.int (e := IntKind.i64.wrap (((k153 : Nat) : Int) + 1)) yk (by rw [IntWalk.i64_in _ (by omega)]; omega)) (Mz rfl (WL.nil ?_)))))))
  have H451 := H450.pick [2, 0, 1, 3, 4, 5, 6, 7] (by decide) rfl
  exact Fin.round (k153 + 1, z154, z155, k156, k157, k158, k159, k160, k161, k162, r401, k164, b165, s166, s167, A168, c169, l170, A171, c172, d174, l173, A175, c176, l177, A407, c408, r402.xB.ls, r402.xE) ⟨rfl, rfl, rfl, rfl, rfl, rfl, trivial⟩ (dm189.2 ⟨H451, by exact hi191, by exact (SubS.trans hi192 hs409), by omega, by first | omega | exact Nat.zero_le _, by first | omega | exact Nat.zero_le _, by first | omega | exact Nat.zero_le _, by omega, by omega, by omega, by omega, by omega, by omega, by omega, by omega, by omega, et (hq190) (et (congrArg (fun q => r18_R_msg_L0 r35 r100 r120 q z154 z155 k156 k157 k158 k159 k160 k161 k162 k163 k164 b165 s166 s167 l170 l173 l177 l180 z181) hd211) (et (iN h212) (et (iN h234) (et (iN h256) (et (iN h277) (et (iN h317) (et (iN h342) (et (iN h370) (et (bnd_of hr403) (et (iN h412) (et (iN h417) (et (iN h422) (et (iN h427) (et (iN h432) (et (iN h437) (et (iN h442) (ip h447)))))))))))))))))⟩) (by show r139.length - (k153 + 1) < r139.length - k153; omega)
  refine jF (dF h447) (sr (Kz (.bool (decide (((x209.toNat : Nat) : Int) = 110))) (An rfl ?_)))
  by_cases h452 : ((x209.toNat : Nat) : Int) = 110
  refine jT (dT h452) (sr (Mz rfl (Kz (.pointer (some ⟨g24, 0, none⟩)) (Kz (.pointer (some ⟨g24, 14, none⟩)) (An rfl (Wp.ret (Fin.blockR (Fin.thenR (rs (Mz rfl (Kz (.pointer (some ⟨g24, 14, none⟩)) ?_)))))))))))
  have H453 := H406.pick [2, 0, 1, 3, 4, 5, 6, 7] (by decide) rfl
  refine sto [.int .u64 ((r401 : Nat) : Int)] 14 H453 Tryz.sizeOf22 ?_
  intro w454 H455
  refine WL.nil (Fin.blockN (Fin.blockN (Fin.then (Wp.region (fw (.int .i64 ((k153 + 1 : Nat) : Int)) (Yl.int (e := IntKind.i64.wrap (((k153 : Nat) : Int) + 1)) yk (by rw [IntWalk.i64_in _ (by omega)]; omega)) (Mz rfl (WL.nil ?_)))))))
  have H456 := H455.pick [2, 0, 1, 3, 4, 5, 6, 7] (by decide) rfl
  exact Fin.round (k153 + 1, z154, z155, k156, k157, k158, k159, k160, k161, k162, k163, r401, b165, s166, s167, A168, c169, l170, A171, c172, d174, l173, A175, c176, l177, A407, c408, r402.xB.ls, r402.xE) ⟨rfl, rfl, rfl, rfl, rfl, rfl, trivial⟩ (dm189.2 ⟨H456, by exact hi191, by exact (SubS.trans hi192 hs409), by omega, by first | omega | exact Nat.zero_le _, by first | omega | exact Nat.zero_le _, by first | omega | exact Nat.zero_le _, by omega, by omega, by omega, by omega, by omega, by omega, by omega, by omega, by omega, et (hq190) (et (congrArg (fun q => r18_R_msg_L0 r35 r100 r120 q z154 z155 k156 k157 k158 k159 k160 k161 k162 k163 k164 b165 s166 s167 l170 l173 l177 l180 z181) hd211) (et (iN h212) (et (iN h234) (et (iN h256) (et (iN h277) (et (iN h317) (et (iN h342) (et (iN h370) (et (bnd_of hr403) (et (iN h412) (et (iN h417) (et (iN h422) (et (iN h427) (et (iN h432) (et (iN h437) (et (iN h442) (et (iN h447) (ip h452))))))))))))))))))⟩) (by show r139.length - (k153 + 1) < r139.length - k153; omega)
  exfalso; have q9 := r18_let hr140 hx210; omega
  refine jF (dF h208) (Wp.exit (Fin.thenX ?_))
  have hL457 : r18_R_msg_L0 r35 r100 r120 r139 0 0 0 0 0 0 0 0 0 0 0 false ([]) ([]) ([]) ([]) ([]) r121.xB.ls r121.xE = (k156, k157, k158, k159, k160, l173, z154, z155, k161, k162, k163, k164, b165, s166, s167, l170, l177, l180, z181) := et (hq190) (et (congrArg (fun q => r18_R_msg_L0 r35 r100 r120 q z154 z155 k156 k157 k158 k159 k160 k161 k162 k163 k164 b165 s166 s167 l170 l173 l177 l180 z181) (drop_end (ls := r139) (i := k153) (by omega))) rfl)
  refine Fin.thenX (Fin.blockX (Fin.then (sr (La (MsgC r35 r100 r120 0 z154 z155 k156 k157 k158 k159 k160 k161 k162 k163 k164 b165 s166 s167 A168 l170.length c169 A171 l173.length c172 A175 l177.length c176) H185 1 Tryz.isAgg29 Tryz.sizeOf29 ?_))))
  have H458 := H185.pick [3, 0, 1, 2, 4, 5, 6, 7] (by decide) rfl
  refine sto (MsgC r35 r100 r120 0 z154 z155 k156 k157 k158 k159 k160 k161 k162 k163 k164 b165 s166 s167 A168 l170.length c169 A171 l173.length c172 A175 l177.length c176) 0 H458 Tryz.sizeOf29 ?_
  intro w459 H460
  refine nt (Wp.ret (Fin.res (resC rfl rfl (Lds.agg (cs := (MsgC r35 r100 r120 0 z154 z155 k156 k157 k158 k159 k160 k161 k162 k163 k164 b165 s166 s167 A168 l170.length c169 A171 l173.length c172 A175 l177.length c176)) Tryz.isAgg29 Tryz.sizeOf29 ((H460.cls (i := 0) rfl).lit (k := 0) (m := 21) rfl))) ?_))
  have H461 := H460.pick [4, 5, 6, 7, 3] (by decide) rfl
  have e : r18_R_msg p0 = (MsgT.mk r35 r100 r120 0 z154 z155 k156 k157 k158 k159 k160 k161 k162 k163 k164 b165 (RangeD.mk s166 s167) (Ll.mk l170) (Ll.mk l173) (Ll.mk l177), RT.mk (Ll.mk l180) z181) := et (bnd_of hr37) (et (ip h49) (et (bnd_of hr56) (et (bnd_of hj89) (et (bnd_of hr102) (et (bnd_of hr122) (et (bnd_of hr140) (bnd_of hL457)))))))
  obtain ⟨rfl, rfl⟩ := pj2 (e.symm.trans hr)
  exact ⟨A168, c169, A171, c172, A175, c176, d174, A178, c179, rfl, H461, hi191, (SubS.trans (SubS.trans (SubS.trans (SubS.trans hs43 hi90) hs108) hs128) hi192), (by first | omega | (dsimp only; omega) | (simp only [List.length_nil]; omega) | (refine ⟨?_, ?_⟩ <;> (dsimp only; omega)))⟩
  refine Sz (dF h49) (Sz (dF h49) (Sz (dF h49) (Sz (dF h49) (fw (.bool false) (Yl.pickF rfl (dF h49) rfl) (nt (jf (Wp.skip (Fin.then (sr (Mz rfl ?_))))))))))
  have H462 := H48.pick [1, 0, 2] (by decide) rfl
  obtain ⟨⟨r468, r469⟩, hr470⟩ : ∃ q : Int × RT, r18_R_Byte r36 = q := ⟨_, rfl⟩
  obtain ⟨D463, HP464, ro465, bk466, rr467⟩ := Own.enter1 H462
  refine cl Tryz.call90 (r18_R_Byte_ok _ _ g0 r36 A41 c42 r468 r469 HP464 (fun w9 h9 => SubS.rds eB_len (by decide) hs43 ((ro465 _ hx0x0) w9 h9)) (show r36.xB.ls.length ≤ c42 ∧ r36.xB.ls.length ≤ 9223372036854775807 from by omega) hr470) ?_
  rintro _ w471 ⟨A474, c475, rfl, HQ472, hs476, hk477⟩
  have H473 := bk466 _ _ HQ472
  replace hs476 : SubS 1 A41 c42 r36.xB.ls A474 c475 r469.xB.ls := hs476
  have hz478 := (hs476).le
  replace hk477 : 0 ≤ r468 ∧ r468 ≤ 255 := hk477
  refine Kz (.pointer (some ⟨g24, 1, none⟩)) ?_
  have H479 := H473.pick [1, 0, 2] (by decide) rfl
  refine sto [.int .i64 r468] 1 H479 Tryz.sizeOf3 ?_
  intro w480 H481
  refine ns (Mz rfl ?_)
  have H482 := H481.pick [1, 0, 2] (by decide) rfl
  obtain ⟨⟨r488, r489⟩, hr490⟩ : ∃ q : Int × RT, r18_R_Byte r469 = q := ⟨_, rfl⟩
  obtain ⟨D483, HP484, ro485, bk486, rr487⟩ := Own.enter1 H482
  refine cl Tryz.call90 (r18_R_Byte_ok _ _ g0 r469 A474 c475 r488 r489 HP484 (fun w9 h9 => SubS.rds eB_len (by decide) hs476 ((fun w9 h9 => SubS.rds eB_len (by decide) hs43 ((ro485 _ hx0x0) w9 h9)) w9 h9)) (show r469.xB.ls.length ≤ c475 ∧ r469.xB.ls.length ≤ 9223372036854775807 from by omega) hr490) ?_
  rintro _ w491 ⟨A494, c495, rfl, HQ492, hs496, hk497⟩
  have H493 := bk486 _ _ HQ492
  replace hs496 : SubS 1 A474 c475 r469.xB.ls A494 c495 r489.xB.ls := hs496
  have hz498 := (hs496).le
  replace hk497 : 0 ≤ r488 ∧ r488 ≤ 255 := hk497
  refine Kz (.pointer (some ⟨g24, 2, none⟩)) ?_
  have H499 := H493.pick [1, 0, 2] (by decide) rfl
  refine sto [.int .i64 r488] 2 H499 Tryz.sizeOf3 ?_
  intro w500 H501
  refine nt (Wp.seq (sr (Kz (.pointer (some ⟨g24, 0, none⟩)) (Lz (.int .i64 r35) H501 0 Tryz.isAgg3 ?_))))
  obtain ⟨r507, hr508⟩ : ∃ q, r18_fields r35 = q := ⟨_, rfl⟩
  obtain ⟨D502, HP503, ro504, bk505, rr506⟩ := Own.enter0 H501
  refine cl Tryz.call27 (r18_fields_ok _ _ r35 r507 HP503 hr508) ?_
  rintro _ w509 ⟨rfl, HQ510, hk512⟩
  have H511 := bk505 _ _ HQ510
  replace hk512 : r507.length ≤ 5 := hk512
  refine WL.do rfl (Do.toBytesE (l := r507) Tryz.underlying9 Tryz.underlying31 Tryz.underlying5 H511 rfl (by unfold maxLen; omega) ?_)
  intro A513 c514 w515 H516
  refine Kz (.int .i64 ((r507.length : Nat) : Int)) (Mn rfl (Wp.block ?_))
  have H517 : Own w D w515 [row none 0 0 (List.flatMap OpD.cells ([])) 64 6, row A513 r507.length c514 (List.flatMap eB r507) 5 1, blk g24 (MsgC r35 r468 r488 0 0 0 0 0 0 0 0 0 0 0 0 false ([]) ([]) none 0 0 none 0 0 none 0 0) 29, blk g0 [.slice A494 r489.xB.ls.length c495, .int .i64 r489.xE] 75, blk g21 (MsgC 0 0 0 0 0 0 0 0 0 0 0 0 0 0 0 false ([]) ([]) none 0 0 none 0 0 none 0 0) 29] := H516.free (row_nil 64 6)
  have H518 : Own w D w515 [sepL (List.flatMap ResultD.own ([])), row none 0 0 (List.flatMap OpD.cells ([])) 64 6, row A513 r507.length c514 (List.flatMap eB r507) 5 1, blk g24 (MsgC r35 r468 r488 0 0 0 0 0 0 0 0 0 0 0 0 false ([]) ([]) none 0 0 none 0 0 none 0 0) 29, blk g0 [.slice A494 r489.xB.ls.length c495, .int .i64 r489.xE] 75, blk g21 (MsgC 0 0 0 0 0 0 0 0 0 0 0 0 0 0 0 false ([]) ([]) none 0 0 none 0 0 none 0 0) 29] := H517.sepNil
  have H519 : Own w D w515 [row none 0 0 (List.flatMap ResultD.cells ([])) 84 3, sepL (List.flatMap ResultD.own ([])), row none 0 0 (List.flatMap OpD.cells ([])) 64 6, row A513 r507.length c514 (List.flatMap eB r507) 5 1, blk g24 (MsgC r35 r468 r488 0 0 0 0 0 0 0 0 0 0 0 0 false ([]) ([]) none 0 0 none 0 0 none 0 0) 29, blk g0 [.slice A494 r489.xB.ls.length c495, .int .i64 r489.xE] 75, blk g21 (MsgC 0 0 0 0 0 0 0 0 0 0 0 0 0 0 0 false ([]) ([]) none 0 0 none 0 0 none 0 0) 29] := H518.free (row_nil 84 3)
  have H520 : Own w D w515 [row none 0 0 (List.flatMap OwnerD.cells ([])) 88 2, row none 0 0 (List.flatMap ResultD.cells ([])) 84 3, sepL (List.flatMap ResultD.own ([])), row none 0 0 (List.flatMap OpD.cells ([])) 64 6, row A513 r507.length c514 (List.flatMap eB r507) 5 1, blk g24 (MsgC r35 r468 r488 0 0 0 0 0 0 0 0 0 0 0 0 false ([]) ([]) none 0 0 none 0 0 none 0 0) 29, blk g0 [.slice A494 r489.xB.ls.length c495, .int .i64 r489.xE] 75, blk g21 (MsgC 0 0 0 0 0 0 0 0 0 0 0 0 0 0 0 false ([]) ([]) none 0 0 none 0 0 none 0 0) 29] := H519.free (row_nil 88 2)
  have H551 := H520.pick [4, 5, 6, 7, 3, 1, 2, 0] (by decide) rfl
  obtain ⟨I555, hI556⟩ : ∃ q : (Nat × Int × Int × Nat × Nat × Nat × Nat × Nat × Nat × Nat × Nat × Nat × Bool × (List UInt8) × (List UInt8) × (Option Addr) × Nat × (List OpD) × (Option Addr) × Nat × (List ResultD) × (List ResultT) × (Option Addr) × Nat × (List OwnerD) × (Option Addr) × Nat × (List UInt8) × Int) → World → Prop, q = fun (i : Nat × Int × Int × Nat × Nat × Nat × Nat × Nat × Nat × Nat × Nat × Nat × Bool × (List UInt8) × (List UInt8) × (Option Addr) × Nat × (List OpD) × (Option Addr) × Nat × (List ResultD) × (List ResultT) × (Option Addr) × Nat × (List OwnerD) × (Option Addr) × Nat × (List UInt8) × Int) w' => Own w D w' [row A513 r507.length c514 (List.flatMap eB r507) 5 1, blk g24 (MsgC r35 r468 r488 0 i.2.1 i.2.2.1 i.2.2.2.1 i.2.2.2.2.1 i.2.2.2.2.2.1 i.2.2.2.2.2.2.1 i.2.2.2.2.2.2.2.1 i.2.2.2.2.2.2.2.2.1 i.2.2.2.2.2.2.2.2.2.1 i.2.2.2.2.2.2.2.2.2.2.1 i.2.2.2.2.2.2.2.2.2.2.2.1 i.2.2.2.2.2.2.2.2.2.2.2.2.1 i.2.2.2.2.2.2.2.2.2.2.2.2.2.1 i.2.2.2.2.2.2.2.2.2.2.2.2.2.2.1 i.2.2.2.2.2.2.2.2.2.2.2.2.2.2.2.1 i.2.2.2.2.2.2.2.2.2.2.2.2.2.2.2.2.2.1.length i.2.2.2.2.2.2.2.2.2.2.2.2.2.2.2.2.1 i.2.2.2.2.2.2.2.2.2.2.2.2.2.2.2.2.2.2.1 i.2.2.2.2.2.2.2.2.2.2.2.2.2.2.2.2.2.2.2.2.2.1.length i.2.2.2.2.2.2.2.2.2.2.2.2.2.2.2.2.2.2.2.1 i.2.2.2.2.2.2.2.2.2.2.2.2.2.2.2.2.2.2.2.2.2.2.1 i.2.2.2.2.2.2.2.2.2.2.2.2.2.2.2.2.2.2.2.2.2.2.2.2.1.length i.2.2.2.2.2.2.2.2.2.2.2.2.2.2.2.2.2.2.2.2.2.2.2.1) 29, blk g0 [.slice i.2.2.2.2.2.2.2.2.2.2.2.2.2.2.2.2.2.2.2.2.2.2.2.2.2.1 i.2.2.2.2.2.2.2.2.2.2.2.2.2.2.2.2.2.2.2.2.2.2.2.2.2.2.2.1.length i.2.2.2.2.2.2.2.2.2.2.2.2.2.2.2.2.2.2.2.2.2.2.2.2.2.2.1, .int .i64 i.2.2.2.2.2.2.2.2.2.2.2.2.2.2.2.2.2.2.2.2.2.2.2.2.2.2.2.2] 75, blk g21 (MsgC 0 0 0 0 0 0 0 0 0 0 0 0 0 0 0 false ([]) ([]) none 0 0 none 0 0 none 0 0) 29, row i.2.2.2.2.2.2.2.2.2.2.2.2.2.2.2.1 i.2.2.2.2.2.2.2.2.2.2.2.2.2.2.2.2.2.1.length i.2.2.2.2.2.2.2.2.2.2.2.2.2.2.2.2.1 (List.flatMap OpD.cells i.2.2.2.2.2.2.2.2.2.2.2.2.2.2.2.2.2.1) 64 6, row i.2.2.2.2.2.2.2.2.2.2.2.2.2.2.2.2.2.2.1 i.2.2.2.2.2.2.2.2.2.2.2.2.2.2.2.2.2.2.2.2.2.1.length i.2.2.2.2.2.2.2.2.2.2.2.2.2.2.2.2.2.2.2.1 (List.flatMap ResultD.cells i.2.2.2.2.2.2.2.2.2.2.2.2.2.2.2.2.2.2.2.2.1) 84 3, sepL (List.flatMap ResultD.own i.2.2.2.2.2.2.2.2.2.2.2.2.2.2.2.2.2.2.2.2.1), row i.2.2.2.2.2.2.2.2.2.2.2.2.2.2.2.2.2.2.2.2.2.2.1 i.2.2.2.2.2.2.2.2.2.2.2.2.2.2.2.2.2.2.2.2.2.2.2.2.1.length i.2.2.2.2.2.2.2.2.2.2.2.2.2.2.2.2.2.2.2.2.2.2.2.1 (List.flatMap OwnerD.cells i.2.2.2.2.2.2.2.2.2.2.2.2.2.2.2.2.2.2.2.2.2.2.2.2.1) 88 2] ∧ (List.map ResultD.abs i.2.2.2.2.2.2.2.2.2.2.2.2.2.2.2.2.2.2.2.2.1 = i.2.2.2.2.2.2.2.2.2.2.2.2.2.2.2.2.2.2.2.2.2.1 ∧ SubS 1 A494 c495 r489.xB.ls i.2.2.2.2.2.2.2.2.2.2.2.2.2.2.2.2.2.2.2.2.2.2.2.2.2.1 i.2.2.2.2.2.2.2.2.2.2.2.2.2.2.2.2.2.2.2.2.2.2.2.2.2.2.1 i.2.2.2.2.2.2.2.2.2.2.2.2.2.2.2.2.2.2.2.2.2.2.2.2.2.2.2.1 ∧ i.1 ≤ r507.length ∧ i.2.2.2.2.2.2.2.2.2.2.2.2.2.2.2.2.2.1.length ≤ 1000 ∧ i.2.2.2.2.2.2.2.2.2.2.2.2.2.2.2.2.2.2.2.2.2.1.length ≤ 1000 ∧ i.2.2.2.2.2.2.2.2.2.2.2.2.2.2.2.2.2.2.2.2.2.2.2.2.1.length ≤ 1000 ∧ i.2.2.2.1 ≤ 18446744073709551615 ∧ i.2.2.2.2.1 ≤ 18446744073709551615 ∧ i.2.2.2.2.2.1 ≤ 18446744073709551615 ∧ i.2.2.2.2.2.2.1 ≤ 18446744073709551615 ∧ i.2.2.2.2.2.2.2.1 ≤ 18446744073709551615 ∧ i.2.2.2.2.2.2.2.2.1 ≤ 18446744073709551615 ∧ i.2.2.2.2.2.2.2.2.2.1 ≤ 18446744073709551615 ∧ i.2.2.2.2.2.2.2.2.2.2.1 ≤ 18446744073709551615 ∧ i.2.2.2.2.2.2.2.2.2.2.2.1 ≤ 18446744073709551615 ∧ r18_R_msg_L1 r35 r468 r488 r507 0 0 0 0 0 0 0 0 0 0 0 false ([]) ([]) ([]) ([]) ([]) r489.xB.ls r489.xE = r18_R_msg_L1 r35 r468 r488 (List.drop i.1 r507) i.2.1 i.2.2.1 i.2.2.2.1 i.2.2.2.2.1 i.2.2.2.2.2.1 i.2.2.2.2.2.2.1 i.2.2.2.2.2.2.2.1 i.2.2.2.2.2.2.2.2.1 i.2.2.2.2.2.2.2.2.2.1 i.2.2.2.2.2.2.2.2.2.2.1 i.2.2.2.2.2.2.2.2.2.2.2.1 i.2.2.2.2.2.2.2.2.2.2.2.2.1 i.2.2.2.2.2.2.2.2.2.2.2.2.2.1 i.2.2.2.2.2.2.2.2.2.2.2.2.2.2.1 i.2.2.2.2.2.2.2.2.2.2.2.2.2.2.2.2.2.1 i.2.2.2.2.2.2.2.2.2.2.2.2.2.2.2.2.2.2.2.2.2.1 i.2.2.2.2.2.2.2.2.2.2.2.2.2.2.2.2.2.2.2.2.2.2.2.2.1 i.2.2.2.2.2.2.2.2.2.2.2.2.2.2.2.2.2.2.2.2.2.2.2.2.2.2.2.1 i.2.2.2.2.2.2.2.2.2.2.2.2.2.2.2.2.2.2.2.2.2.2.2.2.2.2.2.2) := ⟨_, rfl⟩
  have dm557 : ∀ {k521 : Nat} {z522 : Int} {z523 : Int} {k524 : Nat} {k525 : Nat} {k526 : Nat} {k527 : Nat} {k528 : Nat} {k529 : Nat} {k530 : Nat} {k531 : Nat} {k532 : Nat} {b533 : Bool} {s534 : List UInt8} {s535 : List UInt8} {A536 : Option Addr} {c537 : Nat} {l538 : List OpD} {A539 : Option Addr} {c540 : Nat} {d542 : List ResultD} {l541 : List ResultT} {A543 : Option Addr} {c544 : Nat} {l545 : List OwnerD} {A546 : Option Addr} {c547 : Nat} {l548 : List UInt8} {z549 : Int} {w' : World}, I555 (k521, z522, z523, k524, k525, k526, k527, k528, k529, k530, k531, k532, b533, s534, s535, A536, c537, l538, A539, c540, d542, l541, A543, c544, l545, A546, c547, l548, z549) w' ↔ Own w D w' [row A513 r507.length c514 (List.flatMap eB r507) 5 1, blk g24 (MsgC r35 r468 r488 0 z522 z523 k524 k525 k526 k527 k528 k529 k530 k531 k532 b533 s534 s535 A536 l538.length c537 A539 l541.length c540 A543 l545.length c544) 29, blk g0 [.slice A546 l548.length c547, .int .i64 z549] 75, blk g21 (MsgC 0 0 0 0 0 0 0 0 0 0 0 0 0 0 0 false ([]) ([]) none 0 0 none 0 0 none 0 0) 29, row A536 l538.length c537 (List.flatMap OpD.cells l538) 64 6, row A539 l541.length c540 (List.flatMap ResultD.cells d542) 84 3, sepL (List.flatMap ResultD.own d542), row A543 l545.length c544 (List.flatMap OwnerD.cells l545) 88 2] ∧ List.map ResultD.abs d542 = l541 ∧ SubS 1 A494 c495 r489.xB.ls A546 c547 l548 ∧ k521 ≤ r507.length ∧ l538.length ≤ 1000 ∧ l541.length ≤ 1000 ∧ l545.length ≤ 1000 ∧ k524 ≤ 18446744073709551615 ∧ k525 ≤ 18446744073709551615 ∧ k526 ≤ 18446744073709551615 ∧ k527 ≤ 18446744073709551615 ∧ k528 ≤ 18446744073709551615 ∧ k529 ≤ 18446744073709551615 ∧ k530 ≤ 18446744073709551615 ∧ k531 ≤ 18446744073709551615 ∧ k532 ≤ 18446744073709551615 ∧ r18_R_msg_L1 r35 r468 r488 r507 0 0 0 0 0 0 0 0 0 0 0 false ([]) ([]) ([]) ([]) ([]) r489.xB.ls r489.xE = r18_R_msg_L1 r35 r468 r488 (List.drop k521 r507) z522 z523 k524 k525 k526 k527 k528 k529 k530 k531 k532 b533 s534 s535 l538 l541 l545 l548 z549 := by intros; subst hI556; exact Iff.rfl
  refine Wp.loop (fun i : Nat × Int × Int × Nat × Nat × Nat × Nat × Nat × Nat × Nat × Nat × Nat × Bool × (List UInt8) × (List UInt8) × (Option Addr) × Nat × (List OpD) × (Option Addr) × Nat × (List ResultD) × (List ResultT) × (Option Addr) × Nat × (List OwnerD) × (Option Addr) × Nat × (List UInt8) × Int => [(35, .int .i64 ((i.1 : Nat) : Int)), (34, .int .i64 ((r507.length : Nat) : Int)), (33, .slice A513 r507.length c514), (3, .pointer (some ⟨g24, 0, none⟩)), (2, .pointer (some ⟨g21, 0, none⟩)), (0, .pointer (some ⟨g0, 0, none⟩))]) I555 (fun i => r507.length - i.1) (0, 0, 0, 0, 0, 0, 0, 0, 0, 0, 0, 0, false, [], [], none, 0, [], none, 0, [], [], none, 0, [], A494, c495, r489.xB.ls, r489.xE) ⟨rfl, rfl, rfl, rfl, rfl, rfl, trivial⟩ (dm557.2 ⟨H551, (show List.map ResultD.abs ([]) = ([]) ∧ SubS 1 A494 c495 r489.xB.ls A494 c495 r489.xB.ls ∧ 0 ≤ r507.length ∧ 0 ≤ 1000 ∧ 0 ≤ 1000 ∧ 0 ≤ 1000 ∧ 0 ≤ 18446744073709551615 ∧ 0 ≤ 18446744073709551615 ∧ 0 ≤ 18446744073709551615 ∧ 0 ≤ 18446744073709551615 ∧ 0 ≤ 18446744073709551615 ∧ 0 ≤ 18446744073709551615 ∧ 0 ≤ 18446744073709551615 ∧ 0 ≤ 18446744073709551615 ∧ 0 ≤ 18446744073709551615 ∧ r18_R_msg_L1 r35 r468 r488 r507 0 0 0 0 0 0 0 0 0 0 0 false ([]) ([]) ([]) ([]) ([]) r489.xB.ls r489.xE = r18_R_msg_L1 r35 r468 r488 (List.drop 0 r507) 0 0 0 0 0 0 0 0 0 0 0 false ([]) ([]) ([]) ([]) ([]) r489.xB.ls r489.xE from ⟨by exact rfl, by exact (SubS.refl (by omega)), by omega, by first | omega | exact Nat.zero_le _, by first | omega | exact Nat.zero_le _, by first | omega | exact Nat.zero_le _, by omega, by omega, by omega, by omega, by omega, by omega, by omega, by omega, by omega, rfl⟩)⟩) ?_
  rintro ⟨k521, z522, z523, k524, k525, k526, k527, k528, k529, k530, k531, k532, b533, s534, s535, A536, c537, l538, A539, c540, d542, l541, A543, c544, l545, A546, c547, l548, z549⟩ w552 hf554
  show Wp _ _ _ [(35, .int .i64 ((k521 : Nat) : Int)), (34, .int .i64 ((r507.length : Nat) : Int)), (33, .slice A513 r507.length c514), (3, .pointer (some ⟨g24, 0, none⟩)), (2, .pointer (some ⟨g21, 0, none⟩)), (0, .pointer (some ⟨g0, 0, none⟩))] _ _
  obtain ⟨H553, hi559, hi560, hi561, hi562, hi563, hi564, hi565, hi566, hi567, hi568, hi569, hi570, hi571, hi572, hi573, hq558⟩ := dm557.1 hf554
  have hl574 := abs_len hi559
  have hz575 := (hi560).le
  refine sr (Kz (.bool (decide (((k521 : Nat) : Int) < ((r507.length : Nat) : Int)))) (nt (Wp.seq ?_)))
  by_cases h576 : ((k521 : Nat) : Int) < ((r507.length : Nat) : Int)
  obtain ⟨x577, hx578⟩ := rds_at (ls := r507) (i := k521) eB_len (by decide) (H553.rds (i := 0) rfl) (by first | omega | (simp; done) | (simp; omega))
  have hd579 := drop_at hx578
  refine jT (dT h576) (Wp.skip (Fin.then (Wp.seq (Wp.block (sr (fw (.pointer (some ⟨ab A513, ao A513 + k521 * 1, none⟩)) (Yl.indexAddr (El31) rfl rfl ((H553.rds (i := 0) rfl).addr (i := k521) (by omega)) (by omega)) (fw (.int .u8 ((x577.toNat : Nat) : Int)) (Yl.load rfl (Lds.one Tryz.isAgg5 (((H553.rds (i := 0) rfl).elem eB_len hx578 (by decide)).at_ (k := 0) rfl))) (Ar rfl (Mn rfl (Wp.block (sr (Kz (.bool (decide (((x577.toNat : Nat) : Int) = 99))) (An rfl ?_)))))))))))))
  by_cases h580 : ((x577.toNat : Nat) : Int) = 99
  refine jT (dT h580) (Wp.region (Mz rfl ?_))
  have H581 := H553.pick [2, 0, 1, 3, 4, 5, 6, 7] (by decide) rfl
  obtain ⟨⟨r587, r588⟩, hr589⟩ : ∃ q : Int × RT, r18_R_Byte (RT.mk (Ll.mk l548) z549) = q := ⟨_, rfl⟩
  obtain ⟨D582, HP583, ro584, bk585, rr586⟩ := Own.enter1 H581
  refine cl Tryz.call90 (r18_R_Byte_ok _ _ g0 (RT.mk (Ll.mk l548) z549) A546 c547 r587 r588 HP583 (fun w9 h9 => SubS.rds eB_len (by decide) hi560 ((fun w9 h9 => SubS.rds eB_len (by decide) hs496 ((fun w9 h9 => SubS.rds eB_len (by decide) hs476 ((fun w9 h9 => SubS.rds eB_len (by decide) hs43 ((ro584 _ hx0x0) w9 h9)) w9 h9)) w9 h9)) w9 h9)) (show l548.length ≤ c547 ∧ l548.length ≤ 9223372036854775807 from by omega) hr589) ?_
  rintro _ w590 ⟨A593, c594, rfl, HQ591, hs595, hk596⟩
  have H592 := bk585 _ _ HQ591
  replace hs595 : SubS 1 A546 c547 l548 A593 c594 r588.xB.ls := hs595
  have hz597 := (hs595).le
  replace hk596 : 0 ≤ r587 ∧ r587 ≤ 255 := hk596
  refine Kz (.pointer (some ⟨g24, 4, none⟩)) ?_
  have H598 := H592.pick [2, 0, 1, 3, 4, 5, 6, 7] (by decide) rfl
  refine sto [.int .i64 r587] 4 H598 Tryz.sizeOf3 ?_
  intro w599 H600
  refine WL.nil (Fin.blockN (Fin.blockN (Fin.then (Wp.region (fw (.int .i64 ((k521 + 1 : Nat) : Int)) (Yl.int (e := IntKind.i64.wrap (((k521 : Nat) : Int) + 1)) yk (by rw [IntWalk.i64_in _ (by omega)]; omega)) (Mz rfl (WL.nil ?_)))))))
  have H601 := H600.pick [2, 0, 1, 3, 4, 5, 6, 7] (by decide) rfl
  exact Fin.round (k521 + 1, r587, z523, k524, k525, k526, k527, k528, k529, k530, k531, k532, b533, s534, s535, A536, c537, l538, A539, c540, d542, l541, A543, c544, l545, A593, c594, r588.xB.ls, r588.xE) ⟨rfl, rfl, rfl, rfl, rfl, rfl, trivial⟩ (dm557.2 ⟨H601, by exact hi559, by exact (SubS.trans hi560 hs595), by omega, by first | omega | exact Nat.zero_le _, by first | omega | exact Nat.zero_le _, by first | omega | exact Nat.zero_le _, by omega, by omega, by omega, by omega, by omega, by omega, by omega, by omega, by omega, et (hq558) (et (congrArg (fun q => r18_R_msg_L1 r35 r468 r488 q z522 z523 k524 k525 k526 k527 k528 k529 k530 k531 k532 b533 s534 s535 l538 l541 l545 l548 z549) hd579) (et (ip h580) (bnd_of hr589)))⟩) (by show r507.length - (k521 + 1) < r507.length - k521; omega)
  refine jF (dF h580) (sr (Kz (.bool (decide (((x577.toNat : Nat) : Int) = 112))) (An rfl ?_)))
  by_cases h602 : ((x577.toNat : Nat) : Int) = 112
  refine jT (dT h602) (Wp.region (Mz rfl ?_))
  have H603 := H553.pick [2, 0, 1, 3, 4, 5, 6, 7] (by decide) rfl
  obtain ⟨⟨r609, r610⟩, hr611⟩ : ∃ q : Int × RT, r18_R_Byte (RT.mk (Ll.mk l548) z549) = q := ⟨_, rfl⟩
  obtain ⟨D604, HP605, ro606, bk607, rr608⟩ := Own.enter1 H603
  refine cl Tryz.call90 (r18_R_Byte_ok _ _ g0 (RT.mk (Ll.mk l548) z549) A546 c547 r609 r610 HP605 (fun w9 h9 => SubS.rds eB_len (by decide) hi560 ((fun w9 h9 => SubS.rds eB_len (by decide) hs496 ((fun w9 h9 => SubS.rds eB_len (by decide) hs476 ((fun w9 h9 => SubS.rds eB_len (by decide) hs43 ((ro606 _ hx0x0) w9 h9)) w9 h9)) w9 h9)) w9 h9)) (show l548.length ≤ c547 ∧ l548.length ≤ 9223372036854775807 from by omega) hr611) ?_
  rintro _ w612 ⟨A615, c616, rfl, HQ613, hs617, hk618⟩
  have H614 := bk607 _ _ HQ613
  replace hs617 : SubS 1 A546 c547 l548 A615 c616 r610.xB.ls := hs617
  have hz619 := (hs617).le
  replace hk618 : 0 ≤ r609 ∧ r609 ≤ 255 := hk618
  refine Kz (.pointer (some ⟨g24, 5, none⟩)) ?_
  have H620 := H614.pick [2, 0, 1, 3, 4, 5, 6, 7] (by decide) rfl
  refine sto [.int .i64 r609] 5 H620 Tryz.sizeOf3 ?_
  intro w621 H622
  refine WL.nil (Fin.blockN (Fin.blockN (Fin.then (Wp.region (fw (.int .i64 ((k521 + 1 : Nat) : Int)) (Yl.int (e := IntKind.i64.wrap (((k521 : Nat) : Int) + 1)) yk (by rw [IntWalk.i64_in _ (by omega)]; omega)) (Mz rfl (WL.nil ?_)))))))
  have H623 := H622.pick [2, 0, 1, 3, 4, 5, 6, 7] (by decide) rfl
  exact Fin.round (k521 + 1, z522, r609, k524, k525, k526, k527, k528, k529, k530, k531, k532, b533, s534, s535, A536, c537, l538, A539, c540, d542, l541, A543, c544, l545, A615, c616, r610.xB.ls, r610.xE) ⟨rfl, rfl, rfl, rfl, rfl, rfl, trivial⟩ (dm557.2 ⟨H623, by exact hi559, by exact (SubS.trans hi560 hs617), by omega, by first | omega | exact Nat.zero_le _, by first | omega | exact Nat.zero_le _, by first | omega | exact Nat.zero_le _, by omega, by omega, by omega, by omega, by omega, by omega, by omega, by omega, by omega, et (hq558) (et (congrArg (fun q => r18_R_msg_L1 r35 r468 r488 q z522 z523 k524 k525 k526 k527 k528 k529 k530 k531 k532 b533 s534 s535 l538 l541 l545 l548 z549) hd579) (et (iN h580) (et (ip h602) (bnd_of hr611))))⟩) (by show r507.length - (k521 + 1) < r507.length - k521; omega)
  refine jF (dF h602) (sr (Kz (.bool (decide (((x577.toNat : Nat) : Int) = 102))) (An rfl ?_)))
  by_cases h624 : ((x577.toNat : Nat) : Int) = 102
  refine jT (dT h624) (Wp.region (Mz rfl ?_))
  have H625 := H553.pick [2, 0, 1, 3, 4, 5, 6, 7] (by decide) rfl
  obtain ⟨⟨r631, r632⟩, hr633⟩ : ∃ q : Bool × RT, r18_R_Flag (RT.mk (Ll.mk l548) z549) = q := ⟨_, rfl⟩
  obtain ⟨D626, HP627, ro628, bk629, rr630⟩ := Own.enter1 H625
  refine cl Tryz.call91 (r18_R_Flag_ok _ _ g0 (RT.mk (Ll.mk l548) z549) A546 c547 r631 r632 HP627 (fun w9 h9 => SubS.rds eB_len (by decide) hi560 ((fun w9 h9 => SubS.rds eB_len (by decide) hs496 ((fun w9 h9 => SubS.rds eB_len (by decide) hs476 ((fun w9 h9 => SubS.rds eB_len (by decide) hs43 ((ro628 _ hx0x0) w9 h9)) w9 h9)) w9 h9)) w9 h9)) (show l548.length ≤ c547 ∧ l548.length ≤ 9223372036854775807 from by omega) hr633) ?_
  rintro _ w634 ⟨A637, c638, rfl, HQ635, hs639⟩
  have H636 := bk629 _ _ HQ635
  replace hs639 : SubS 1 A546 c547 l548 A637 c638 r632.xB.ls := hs639
  have hz640 := (hs639).le
  refine Kz (.pointer (some ⟨g24, 15, none⟩)) ?_
  have H641 := H636.pick [2, 0, 1, 3, 4, 5, 6, 7] (by decide) rfl
  refine sto [.bool r631] 15 H641 Tryz.sizeOf4 ?_
  intro w642 H643
  refine WL.nil (Fin.blockN (Fin.blockN (Fin.then (Wp.region (fw (.int .i64 ((k521 + 1 : Nat) : Int)) (Yl.int (e := IntKind.i64.wrap (((k521 : Nat) : Int) + 1)) yk (by rw [IntWalk.i64_in _ (by omega)]; omega)) (Mz rfl (WL.nil ?_)))))))
  have H644 := H643.pick [2, 0, 1, 3, 4, 5, 6, 7] (by decide) rfl
  exact Fin.round (k521 + 1, z522, z523, k524, k525, k526, k527, k528, k529, k530, k531, k532, r631, s534, s535, A536, c537, l538, A539, c540, d542, l541, A543, c544, l545, A637, c638, r632.xB.ls, r632.xE) ⟨rfl, rfl, rfl, rfl, rfl, rfl, trivial⟩ (dm557.2 ⟨H644, by exact hi559, by exact (SubS.trans hi560 hs639), by omega, by first | omega | exact Nat.zero_le _, by first | omega | exact Nat.zero_le _, by first | omega | exact Nat.zero_le _, by omega, by omega, by omega, by omega, by omega, by omega, by omega, by omega, by omega, et (hq558) (et (congrArg (fun q => r18_R_msg_L1 r35 r468 r488 q z522 z523 k524 k525 k526 k527 k528 k529 k530 k531 k532 b533 s534 s535 l538 l541 l545 l548 z549) hd579) (et (iN h580) (et (iN h602) (et (ip h624) (bnd_of hr633)))))⟩) (by show r507.length - (k521 + 1) < r507.length - k521; omega)
  refine jF (dF h624) (sr (Kz (.bool (decide (((x577.toNat : Nat) : Int) = 114))) (An rfl ?_)))
  by_cases h645 : ((x577.toNat : Nat) : Int) = 114
  refine jT (dT h645) (sr (Mz rfl ?_))
  have H646 := H553.pick [2, 0, 1, 3, 4, 5, 6, 7] (by decide) rfl
  obtain ⟨⟨r652, r653⟩, hr654⟩ : ∃ q : (List UInt8) × RT, r18_R_Text (RT.mk (Ll.mk l548) z549) = q := ⟨_, rfl⟩
  obtain ⟨D647, HP648, ro649, bk650, rr651⟩ := Own.enter1 H646
  refine cl Tryz.call92 (r18_R_Text_ok _ _ g0 (RT.mk (Ll.mk l548) z549) A546 c547 r652 r653 HP648 (fun w9 h9 => SubS.rds eB_len (by decide) hi560 ((fun w9 h9 => SubS.rds eB_len (by decide) hs496 ((fun w9 h9 => SubS.rds eB_len (by decide) hs476 ((fun w9 h9 => SubS.rds eB_len (by decide) hs43 ((ro649 _ hx0x0) w9 h9)) w9 h9)) w9 h9)) w9 h9)) (show l548.length ≤ c547 ∧ l548.length ≤ 9223372036854775807 from by omega) hr654) ?_
  rintro _ w655 ⟨A658, c659, rfl, HQ656, hs660⟩
  have H657 := bk650 _ _ HQ656
  replace hs660 : SubS 1 A546 c547 l548 A658 c659 r653.xB.ls := hs660
  have hz661 := (hs660).le
  refine Kz (.pointer (some ⟨g24, 16, none⟩)) (Kz (.pointer (some ⟨g24, 16, none⟩)) ?_)
  have H662 := H657.pick [2, 0, 1, 3, 4, 5, 6, 7] (by decide) rfl
  refine sto [.string ⟨List.toArray r652⟩] 16 H662 Tryz.sizeOf9 ?_
  intro w663 H664
  refine nt (Wp.region (Mz rfl ?_))
  have H665 := H664.pick [1, 0, 2, 3, 4, 5, 6, 7] (by decide) rfl
  obtain ⟨⟨r671, r672⟩, hr673⟩ : ∃ q : (List UInt8) × RT, r18_R_Text r653 = q := ⟨_, rfl⟩
  obtain ⟨D666, HP667, ro668, bk669, rr670⟩ := Own.enter1 H665
  refine cl Tryz.call92 (r18_R_Text_ok _ _ g0 r653 A658 c659 r671 r672 HP667 (fun w9 h9 => SubS.rds eB_len (by decide) hs660 ((fun w9 h9 => SubS.rds eB_len (by decide) hi560 ((fun w9 h9 => SubS.rds eB_len (by decide) hs496 ((fun w9 h9 => SubS.rds eB_len (by decide) hs476 ((fun w9 h9 => SubS.rds eB_len (by decide) hs43 ((ro668 _ hx0x0) w9 h9)) w9 h9)) w9 h9)) w9 h9)) w9 h9)) (show r653.xB.ls.length ≤ c659 ∧ r653.xB.ls.length ≤ 9223372036854775807 from by omega) hr673) ?_
  rintro _ w674 ⟨A677, c678, rfl, HQ675, hs679⟩
  have H676 := bk669 _ _ HQ675
  replace hs679 : SubS 1 A658 c659 r653.xB.ls A677 c678 r672.xB.ls := hs679
  have hz680 := (hs679).le
  refine Kz (.pointer (some ⟨g24, 16, none⟩)) (Kz (.pointer (some ⟨g24, 17, none⟩)) ?_)
  have H681 := H676.pick [1, 0, 2, 3, 4, 5, 6, 7] (by decide) rfl
  refine sto [.string ⟨List.toArray r671⟩] 17 H681 Tryz.sizeOf9 ?_
  intro w682 H683
  refine WL.nil (Fin.blockN (Fin.blockN (Fin.then (Wp.region (fw (.int .i64 ((k521 + 1 : Nat) : Int)) (Yl.int (e := IntKind.i64.wrap (((k521 : Nat) : Int) + 1)) yk (by rw [IntWalk.i64_in _ (by omega)]; omega)) (Mz rfl (WL.nil ?_)))))))
  have H684 := H683.pick [2, 0, 1, 3, 4, 5, 6, 7] (by decide) rfl
  exact Fin.round (k521 + 1, z522, z523, k524, k525, k526, k527, k528, k529, k530, k531, k532, b533, r652, r671, A536, c537, l538, A539, c540, d542, l541, A543, c544, l545, A677, c678, r672.xB.ls, r672.xE) ⟨rfl, rfl, rfl, rfl, rfl, rfl, trivial⟩ (dm557.2 ⟨H684, by exact hi559, by exact (SubS.trans (SubS.trans hi560 hs660) hs679), by omega, by first | omega | exact Nat.zero_le _, by first | omega | exact Nat.zero_le _, by first | omega | exact Nat.zero_le _, by omega, by omega, by omega, by omega, by omega, by omega, by omega, by omega, by omega, et (hq558) (et (congrArg (fun q => r18_R_msg_L1 r35 r468 r488 q z522 z523 k524 k525 k526 k527 k528 k529 k530 k531 k532 b533 s534 s535 l538 l541 l545 l548 z549) hd579) (et (iN h580) (et (iN h602) (et (iN h624) (et (ip h645) (et (bnd_of hr654) (bnd_of hr673)))))))⟩) (by show r507.length - (k521 + 1) < r507.length - k521; omega)
  refine jF (dF h645) (sr (Kz (.bool (decide (((x577.toNat : Nat) : Int) = 111))) (An rfl ?_)))
  by_cases h685 : ((x577.toNat : Nat) : Int) = 111
  refine jT (dT h685) (Wp.region (Mz rfl ?_))
  have H686 := H553.pick [2, 0, 1, 3, 4, 5, 6, 7] (by decide) rfl
  obtain ⟨⟨r692, r693⟩, hr694⟩ : ∃ q : (List OpD) × RT, r18_R_Ops (RT.mk (Ll.mk l548) z549) = q := ⟨_, rfl⟩
  obtain ⟨D687, HP688, ro689, bk690, rr691⟩ := Own.enter1 H686
  refine cl Tryz.call93 (r18_R_Ops_ok _ _ g0 (RT.mk (Ll.mk l548) z549) A546 c547 r692 r693 HP688 (fun w9 h9 => SubS.rds eB_len (by decide) hi560 ((fun w9 h9 => SubS.rds eB_len (by decide) hs496 ((fun w9 h9 => SubS.rds eB_len (by decide) hs476 ((fun w9 h9 => SubS.rds eB_len (by decide) hs43 ((ro689 _ hx0x0) w9 h9)) w9 h9)) w9 h9)) w9 h9)) (show l548.length ≤ c547 ∧ l548.length ≤ 9223372036854775807 from by omega) hr694) ?_
  rintro _ w695 ⟨A698, c699, A700, c701, rfl, HQ696, hs702, hk703⟩
  have H697 := bk690 _ _ HQ696
  replace hs702 : SubS 1 A546 c547 l548 A700 c701 r693.xB.ls := hs702
  have hz704 := (hs702).le
  have hb705 := H697.rowC (i := 0) rfl
  replace hk703 : r692.length ≤ 1000 := hk703
  refine Kz (.pointer (some ⟨g24, 18, none⟩)) ?_
  have H706 := H697.pick [3, 0, 1, 2, 4, 5, 6, 7, 8] (by decide) rfl
  refine sto [.slice A698 r692.length c699] 18 H706 Tryz.sizeOf25 ?_
  intro w707 H708
  refine WL.nil (Fin.blockN (Fin.blockN (Fin.then (Wp.region (fw (.int .i64 ((k521 + 1 : Nat) : Int)) (Yl.int (e := IntKind.i64.wrap (((k521 : Nat) : Int) + 1)) yk (by rw [IntWalk.i64_in _ (by omega)]; omega)) (Mz rfl (WL.nil ?_)))))))
  have H709 := H708.pick [3, 0, 2, 4, 1, 6, 7, 8] (by decide) rfl
  exact Fin.round (k521 + 1, z522, z523, k524, k525, k526, k527, k528, k529, k530, k531, k532, b533, s534, s535, A698, c699, r692, A539, c540, d542, l541, A543, c544, l545, A700, c701, r693.xB.ls, r693.xE) ⟨rfl, rfl, rfl, rfl, rfl, rfl, trivial⟩ (dm557.2 ⟨H709, by exact hi559, by exact (SubS.trans hi560 hs702), by omega, by first | omega | exact Nat.zero_le _, by first | omega | exact Nat.zero_le _, by first | omega | exact Nat.zero_le _, by omega, by omega, by omega, by omega, by omega, by omega, by omega, by omega, by omega, et (hq558) (et (congrArg (fun q => r18_R_msg_L1 r35 r468 r488 q z522 z523 k524 k525 k526 k527 k528 k529 k530 k531 k532 b533 s534 s535 l538 l541 l545 l548 z549) hd579) (et (iN h580) (et (iN h602) (et (iN h624) (et (iN h645) (et (ip h685) (bnd_of hr694)))))))⟩) (by show r507.length - (k521 + 1) < r507.length - k521; omega)
  refine jF (dF h685) (sr (Kz (.bool (decide (((x577.toNat : Nat) : Int) = 115))) (An rfl ?_)))
  by_cases h710 : ((x577.toNat : Nat) : Int) = 115
  refine jT (dT h710) (Wp.region (Mz rfl ?_))
  have H711 := H553.pick [2, 0, 1, 3, 4, 5, 6, 7] (by decide) rfl
  obtain ⟨⟨r717, r718⟩, hr719⟩ : ∃ q : (List ResultT) × RT, r18_R_Res (RT.mk (Ll.mk l548) z549) = q := ⟨_, rfl⟩
  obtain ⟨D712, HP713, ro714, bk715, rr716⟩ := Own.enter1 H711
  refine cl Tryz.call94 (r18_R_Res_ok _ _ g0 (RT.mk (Ll.mk l548) z549) A546 c547 r717 r718 HP713 (fun w9 h9 => SubS.rds eB_len (by decide) hi560 ((fun w9 h9 => SubS.rds eB_len (by decide) hs496 ((fun w9 h9 => SubS.rds eB_len (by decide) hs476 ((fun w9 h9 => SubS.rds eB_len (by decide) hs43 ((ro714 _ hx0x0) w9 h9)) w9 h9)) w9 h9)) w9 h9)) (show l548.length ≤ c547 ∧ l548.length ≤ 9223372036854775807 from by omega) hr719) ?_
  rintro _ w720 ⟨A723, c724, d725, A727, c728, rfl, HQ721, hd726, hs729, hk730⟩
  have H722 := bk715 _ _ HQ721
  replace hs729 : SubS 1 A546 c547 l548 A727 c728 r718.xB.ls := hs729
  have hz731 := (hs729).le
  have hl732 := abs_len hd726
  have hb733 := H722.rowC (i := 0) rfl
  replace hk730 : r717.length ≤ 1000 := hk730
  refine Kz (.pointer (some ⟨g24, 19, none⟩)) ?_
  have H734 := H722.pick [4, 0, 1, 2, 3, 5, 6, 7, 8, 9] (by decide) rfl
  refine sto [.slice A723 r717.length c724] 19 H734 Tryz.sizeOf26 ?_
  intro w735 H736
  refine WL.nil (Fin.blockN (Fin.blockN (Fin.then (Wp.region (fw (.int .i64 ((k521 + 1 : Nat) : Int)) (Yl.int (e := IntKind.i64.wrap (((k521 : Nat) : Int) + 1)) yk (by rw [IntWalk.i64_in _ (by omega)]; omega)) (Mz rfl (WL.nil ?_)))))))
  have H737 := H736.pick [4, 0, 3, 5, 6, 1, 2, 9] (by decide) rfl
  exact Fin.round (k521 + 1, z522, z523, k524, k525, k526, k527, k528, k529, k530, k531, k532, b533, s534, s535, A536, c537, l538, A723, c724, d725, r717, A543, c544, l545, A727, c728, r718.xB.ls, r718.xE) ⟨rfl, rfl, rfl, rfl, rfl, rfl, trivial⟩ (dm557.2 ⟨H737, by exact hd726, by exact (SubS.trans hi560 hs729), by omega, by first | omega | exact Nat.zero_le _, by first | omega | exact Nat.zero_le _, by first | omega | exact Nat.zero_le _, by omega, by omega, by omega, by omega, by omega, by omega, by omega, by omega, by omega, et (hq558) (et (congrArg (fun q => r18_R_msg_L1 r35 r468 r488 q z522 z523 k524 k525 k526 k527 k528 k529 k530 k531 k532 b533 s534 s535 l538 l541 l545 l548 z549) hd579) (et (iN h580) (et (iN h602) (et (iN h624) (et (iN h645) (et (iN h685) (et (ip h710) (bnd_of hr719))))))))⟩) (by show r507.length - (k521 + 1) < r507.length - k521; omega)
  refine jF (dF h710) (sr (Kz (.bool (decide (((x577.toNat : Nat) : Int) = 119))) (An rfl ?_)))
  by_cases h738 : ((x577.toNat : Nat) : Int) = 119
  refine jT (dT h738) (Wp.region (Mz rfl ?_))
  have H739 := H553.pick [2, 0, 1, 3, 4, 5, 6, 7] (by decide) rfl
  obtain ⟨⟨r745, r746⟩, hr747⟩ : ∃ q : (List OwnerD) × RT, r18_R_Owners (RT.mk (Ll.mk l548) z549) = q := ⟨_, rfl⟩
  obtain ⟨D740, HP741, ro742, bk743, rr744⟩ := Own.enter1 H739
  refine cl Tryz.call95 (r18_R_Owners_ok _ _ g0 (RT.mk (Ll.mk l548) z549) A546 c547 r745 r746 HP741 (fun w9 h9 => SubS.rds eB_len (by decide) hi560 ((fun w9 h9 => SubS.rds eB_len (by decide) hs496 ((fun w9 h9 => SubS.rds eB_len (by decide) hs476 ((fun w9 h9 => SubS.rds eB_len (by decide) hs43 ((ro742 _ hx0x0) w9 h9)) w9 h9)) w9 h9)) w9 h9)) (show l548.length ≤ c547 ∧ l548.length ≤ 9223372036854775807 from by omega) hr747) ?_
  rintro _ w748 ⟨A751, c752, A753, c754, rfl, HQ749, hs755, hk756⟩
  have H750 := bk743 _ _ HQ749
  replace hs755 : SubS 1 A546 c547 l548 A753 c754 r746.xB.ls := hs755
  have hz757 := (hs755).le
  have hb758 := H750.rowC (i := 0) rfl
  replace hk756 : r745.length ≤ 1000 := hk756
  refine Kz (.pointer (some ⟨g24, 20, none⟩)) ?_
  have H759 := H750.pick [3, 0, 1, 2, 4, 5, 6, 7, 8] (by decide) rfl
  refine sto [.slice A751 r745.length c752] 20 H759 Tryz.sizeOf27 ?_
  intro w760 H761
  refine WL.nil (Fin.blockN (Fin.blockN (Fin.then (Wp.region (fw (.int .i64 ((k521 + 1 : Nat) : Int)) (Yl.int (e := IntKind.i64.wrap (((k521 : Nat) : Int) + 1)) yk (by rw [IntWalk.i64_in _ (by omega)]; omega)) (Mz rfl (WL.nil ?_)))))))
  have H762 := H761.pick [3, 0, 2, 4, 5, 6, 7, 1] (by decide) rfl
  exact Fin.round (k521 + 1, z522, z523, k524, k525, k526, k527, k528, k529, k530, k531, k532, b533, s534, s535, A536, c537, l538, A539, c540, d542, l541, A751, c752, r745, A753, c754, r746.xB.ls, r746.xE) ⟨rfl, rfl, rfl, rfl, rfl, rfl, trivial⟩ (dm557.2 ⟨H762, by exact hi559, by exact (SubS.trans hi560 hs755), by omega, by first | omega | exact Nat.zero_le _, by first | omega | exact Nat.zero_le _, by first | omega | exact Nat.zero_le _, by omega, by omega, by omega, by omega, by omega, by omega, by omega, by omega, by omega, et (hq558) (et (congrArg (fun q => r18_R_msg_L1 r35 r468 r488 q z522 z523 k524 k525 k526 k527 k528 k529 k530 k531 k532 b533 s534 s535 l538 l541 l545 l548 z549) hd579) (et (iN h580) (et (iN h602) (et (iN h624) (et (iN h645) (et (iN h685) (et (iN h710) (et (ip h738) (bnd_of hr747)))))))))⟩) (by show r507.length - (k521 + 1) < r507.length - k521; omega)
  refine jF (dF h738) (sr (Mz rfl ?_))
  have H763 := H553.pick [2, 0, 1, 3, 4, 5, 6, 7] (by decide) rfl
  obtain ⟨⟨r769, r770⟩, hr771⟩ : ∃ q : Nat × RT, r18_R_Num (RT.mk (Ll.mk l548) z549) = q := ⟨_, rfl⟩
  obtain ⟨D764, HP765, ro766, bk767, rr768⟩ := Own.enter1 H763
  refine cl Tryz.call96 (r18_R_Num_ok _ _ g0 (RT.mk (Ll.mk l548) z549) A546 c547 r769 r770 HP765 (fun w9 h9 => SubS.rds eB_len (by decide) hi560 ((fun w9 h9 => SubS.rds eB_len (by decide) hs496 ((fun w9 h9 => SubS.rds eB_len (by decide) hs476 ((fun w9 h9 => SubS.rds eB_len (by decide) hs43 ((ro766 _ hx0x0) w9 h9)) w9 h9)) w9 h9)) w9 h9)) (show l548.length ≤ c547 ∧ l548.length ≤ 9223372036854775807 from by omega) hr771) ?_
  rintro _ w772 ⟨A775, c776, rfl, HQ773, hs777, hk778⟩
  have H774 := bk767 _ _ HQ773
  replace hs777 : SubS 1 A546 c547 l548 A775 c776 r770.xB.ls := hs777
  have hz779 := (hs777).le
  replace hk778 : r769 ≤ 18446744073709551615 := hk778
  refine An rfl (Wp.region (Mz rfl ?_))
  refine WL.do rfl (Do.call Tryz.call47 rfl ?_ (fun _ _ k => k))
  refine Calls.body (args := [.pointer (some ⟨g24, 0, none⟩), .int .u8 ((x577.toNat : Nat) : Int)]) Tryz.func47 rfl rfl rfl ?_
  show Wp _ _ _ [(0, .pointer (some ⟨g24, 0, none⟩)), (1, .int .u8 ((x577.toNat : Nat) : Int))] _ _
  refine sr (An rfl (Wp.seq (sr (Mn rfl (Wp.block (sr (Kz (.bool (decide (((x577.toNat : Nat) : Int) = 113))) (An rfl ?_))))))))
  by_cases h780 : ((x577.toNat : Nat) : Int) = 113
  refine jT (dT h780) (sr (Mz rfl (Kz (.pointer (some ⟨g24, 0, none⟩)) (Kz (.pointer (some ⟨g24, 6, none⟩)) (An rfl (Wp.ret (Fin.blockR (Fin.thenR (rs (Mz rfl (Kz (.pointer (some ⟨g24, 6, none⟩)) ?_)))))))))))
  have H781 := H774.pick [2, 0, 1, 3, 4, 5, 6, 7] (by decide) rfl
  refine sto [.int .u64 ((r769 : Nat) : Int)] 6 H781 Tryz.sizeOf22 ?_
  intro w782 H783
  refine WL.nil (Fin.blockN (Fin.blockN (Fin.then (Wp.region (fw (.int .i64 ((k521 + 1 : Nat) : Int)) (Yl.int (e := IntKind.i64.wrap (((k521 : Nat) : Int) + 1)) yk (by rw [IntWalk.i64_in _ (by omega)]; omega)) (Mz rfl (WL.nil ?_)))))))
  have H784 := H783.pick [2, 0, 1, 3, 4, 5, 6, 7] (by decide) rfl
  exact Fin.round (k521 + 1, z522, z523, r769, k525, k526, k527, k528, k529, k530, k531, k532, b533, s534, s535, A536, c537, l538, A539, c540, d542, l541, A543, c544, l545, A775, c776, r770.xB.ls, r770.xE) ⟨rfl, rfl, rfl, rfl, rfl, rfl, trivial⟩ (dm557.2 ⟨H784, by exact hi559, by exact (SubS.trans hi560 hs777), by omega, by first | omega | exact Nat.zero_le _, by first | omega | exact Nat.zero_le _, by first | omega | exact Nat.zero_le _, by omega, by omega, by omega, by omega, by omega, by omega, by omega, by omega, by omega, et (hq558) (et (congrArg (fun q => r18_R_msg_L1 r35 r468 r488 q z522 z523 k524 k525 k526 k527 k528 k529 k530 k531 k532 b533 s534 s535 l538 l541 l545 l548 z549) hd579) (et (iN h580) (et (iN h602) (et (iN h624) (et (iN h645) (et (iN h685) (et (iN h710) (et (iN h738) (et (bnd_of hr771) (ip h780))))))))))⟩) (by show r507.length - (k521 + 1) < r507.length - k521; omega)
  refine jF (dF h780) (sr (Kz (.bool (decide (((x577.toNat : Nat) : Int) = 98))) (An rfl ?_)))
  by_cases h785 : ((x577.toNat : Nat) : Int) = 98
  refine jT (dT h785) (sr (Mz rfl (Kz (.pointer (some ⟨g24, 0, none⟩)) (Kz (.pointer (some ⟨g24, 7, none⟩)) (An rfl (Wp.ret (Fin.blockR (Fin.thenR (rs (Mz rfl (Kz (.pointer (some ⟨g24, 7, none⟩)) ?_)))))))))))
  have H786 := H774.pick [2, 0, 1, 3, 4, 5, 6, 7] (by decide) rfl
  refine sto [.int .u64 ((r769 : Nat) : Int)] 7 H786 Tryz.sizeOf22 ?_
  intro w787 H788
  refine WL.nil (Fin.blockN (Fin.blockN (Fin.then (Wp.region (fw (.int .i64 ((k521 + 1 : Nat) : Int)) (Yl.int (e := IntKind.i64.wrap (((k521 : Nat) : Int) + 1)) yk (by rw [IntWalk.i64_in _ (by omega)]; omega)) (Mz rfl (WL.nil ?_)))))))
  have H789 := H788.pick [2, 0, 1, 3, 4, 5, 6, 7] (by decide) rfl
  exact Fin.round (k521 + 1, z522, z523, k524, r769, k526, k527, k528, k529, k530, k531, k532, b533, s534, s535, A536, c537, l538, A539, c540, d542, l541, A543, c544, l545, A775, c776, r770.xB.ls, r770.xE) ⟨rfl, rfl, rfl, rfl, rfl, rfl, trivial⟩ (dm557.2 ⟨H789, by exact hi559, by exact (SubS.trans hi560 hs777), by omega, by first | omega | exact Nat.zero_le _, by first | omega | exact Nat.zero_le _, by first | omega | exact Nat.zero_le _, by omega, by omega, by omega, by omega, by omega, by omega, by omega, by omega, by omega, et (hq558) (et (congrArg (fun q => r18_R_msg_L1 r35 r468 r488 q z522 z523 k524 k525 k526 k527 k528 k529 k530 k531 k532 b533 s534 s535 l538 l541 l545 l548 z549) hd579) (et (iN h580) (et (iN h602) (et (iN h624) (et (iN h645) (et (iN h685) (et (iN h710) (et (iN h738) (et (bnd_of hr771) (et (iN h780) (ip h785)))))))))))⟩) (by show r507.length - (k521 + 1) < r507.length - k521; omega)
  refine jF (dF h785) (sr (Kz (.bool (decide (((x577.toNat : Nat) : Int) = 116))) (An rfl ?_)))
  by_cases h790 : ((x577.toNat : Nat) : Int) = 116
  refine jT (dT h790) (sr (Mz rfl (Kz (.pointer (some ⟨g24, 0, none⟩)) (Kz (.pointer (some ⟨g24, 8, none⟩)) (An rfl (Wp.ret (Fin.blockR (Fin.thenR (rs (Mz rfl (Kz (.pointer (some ⟨g24, 8, none⟩)) ?_)))))))))))
  have H791 := H774.pick [2, 0, 1, 3, 4, 5, 6, 7] (by decide) rfl
  refine sto [.int .u64 ((r769 : Nat) : Int)] 8 H791 Tryz.sizeOf22 ?_
  intro w792 H793
  refine WL.nil (Fin.blockN (Fin.blockN (Fin.then (Wp.region (fw (.int .i64 ((k521 + 1 : Nat) : Int)) (Yl.int (e := IntKind.i64.wrap (((k521 : Nat) : Int) + 1)) yk (by rw [IntWalk.i64_in _ (by omega)]; omega)) (Mz rfl (WL.nil ?_)))))))
  have H794 := H793.pick [2, 0, 1, 3, 4, 5, 6, 7] (by decide) rfl
  exact Fin.round (k521 + 1, z522, z523, k524, k525, r769, k527, k528, k529, k530, k531, k532, b533, s534, s535, A536, c537, l538, A539, c540, d542, l541, A543, c544, l545, A775, c776, r770.xB.ls, r770.xE) ⟨rfl, rfl, rfl, rfl, rfl, rfl, trivial⟩ (dm557.2 ⟨H794, by exact hi559, by exact (SubS.trans hi560 hs777), by omega, by first | omega | exact Nat.zero_le _, by first | omega | exact Nat.zero_le _, by first | omega | exact Nat.zero_le _, by omega, by omega, by omega, by omega, by omega, by omega, by omega, by omega, by omega, et (hq558) (et (congrArg (fun q => r18_R_msg_L1 r35 r468 r488 q z522 z523 k524 k525 k526 k527 k528 k529 k530 k531 k532 b533 s534 s535 l538 l541 l545 l548 z549) hd579) (et (iN h580) (et (iN h602) (et (iN h624) (et (iN h645) (et (iN h685) (et (iN h710) (et (iN h738) (et (bnd_of hr771) (et (iN h780) (et (iN h785) (ip h790))))))))))))⟩) (by show r507.length - (k521 + 1) < r507.length - k521; omega)
  refine jF (dF h790) (sr (Kz (.bool (decide (((x577.toNat : Nat) : Int) = 108))) (An rfl ?_)))
  by_cases h795 : ((x577.toNat : Nat) : Int) = 108
  refine jT (dT h795) (sr (Mz rfl (Kz (.pointer (some ⟨g24, 0, none⟩)) (Kz (.pointer (some ⟨g24, 9, none⟩)) (An rfl (Wp.ret (Fin.blockR (Fin.thenR (rs (Mz rfl (Kz (.pointer (some ⟨g24, 9, none⟩)) ?_)))))))))))
  have H796 := H774.pick [2, 0, 1, 3, 4, 5, 6, 7] (by decide) rfl
  refine sto [.int .u64 ((r769 : Nat) : Int)] 9 H796 Tryz.sizeOf22 ?_
  intro w797 H798
  refine WL.nil (Fin.blockN (Fin.blockN (Fin.then (Wp.region (fw (.int .i64 ((k521 + 1 : Nat) : Int)) (Yl.int (e := IntKind.i64.wrap (((k521 : Nat) : Int) + 1)) yk (by rw [IntWalk.i64_in _ (by omega)]; omega)) (Mz rfl (WL.nil ?_)))))))
  have H799 := H798.pick [2, 0, 1, 3, 4, 5, 6, 7] (by decide) rfl
  exact Fin.round (k521 + 1, z522, z523, k524, k525, k526, r769, k528, k529, k530, k531, k532, b533, s534, s535, A536, c537, l538, A539, c540, d542, l541, A543, c544, l545, A775, c776, r770.xB.ls, r770.xE) ⟨rfl, rfl, rfl, rfl, rfl, rfl, trivial⟩ (dm557.2 ⟨H799, by exact hi559, by exact (SubS.trans hi560 hs777), by omega, by first | omega | exact Nat.zero_le _, by first | omega | exact Nat.zero_le _, by first | omega | exact Nat.zero_le _, by omega, by omega, by omega, by omega, by omega, by omega, by omega, by omega, by omega, et (hq558) (et (congrArg (fun q => r18_R_msg_L1 r35 r468 r488 q z522 z523 k524 k525 k526 k527 k528 k529 k530 k531 k532 b533 s534 s535 l538 l541 l545 l548 z549) hd579) (et (iN h580) (et (iN h602) (et (iN h624) (et (iN h645) (et (iN h685) (et (iN h710) (et (iN h738) (et (bnd_of hr771) (et (iN h780) (et (iN h785) (et (iN h790) (ip h795)))))))))))))⟩) (by show r507.length - (k521 + 1) < r507.length - k521; omega)
  refine jF (dF h795) (sr (Kz (.bool (decide (((x577.toNat : Nat) : Int) = 118))) (An rfl ?_)))
  by_cases h800 : ((x577.toNat : Nat) : Int) = 118
  refine jT (dT h800) (sr (Mz rfl (Kz (.pointer (some ⟨g24, 0, none⟩)) (Kz (.pointer (some ⟨g24, 10, none⟩)) (An rfl (Wp.ret (Fin.blockR (Fin.thenR (rs (Mz rfl (Kz (.pointer (some ⟨g24, 10, none⟩)) ?_)))))))))))
  have H801 := H774.pick [2, 0, 1, 3, 4, 5, 6, 7] (by decide) rfl
  refine sto [.int .u64 ((r769 : Nat) : Int)] 10 H801 Tryz.sizeOf22 ?_
  intro w802 H803
  refine WL.nil (Fin.blockN (Fin.blockN (Fin.then (Wp.region (fw (.int .i64 ((k521 + 1 : Nat) : Int)) (Yl.int (e := IntKind.i64.wrap (((k521 : Nat) : Int) + 1)) yk (by rw [IntWalk.i64_in _ (by omega)]; omega)) (Mz rfl (WL.nil ?_)))))))
  have H804 := H803.pick [2, 0, 1, 3, 4, 5, 6, 7] (by decide) rfl
  exact Fin.round (k521 + 1, z522, z523, k524, k525, k526, k527, r769, k529, k530, k531, k532, b533, s534, s535, A536, c537, l538, A539, c540, d542, l541, A543, c544, l545, A775, c776, r770.xB.ls, r770.xE) ⟨rfl, rfl, rfl, rfl, rfl, rfl, trivial⟩ (dm557.2 ⟨H804, by exact hi559, by exact (SubS.trans hi560 hs777), by omega, by first | omega | exact Nat.zero_le _, by first | omega | exact Nat.zero_le _, by first | omega | exact Nat.zero_le _, by omega, by omega, by omega, by omega, by omega, by omega, by omega, by omega, by omega, et (hq558) (et (congrArg (fun q => r18_R_msg_L1 r35 r468 r488 q z522 z523 k524 k525 k526 k527 k528 k529 k530 k531 k532 b533 s534 s535 l538 l541 l545 l548 z549) hd579) (et (iN h580) (et (iN h602) (et (iN h624) (et (iN h645) (et (iN h685) (et (iN h710) (et (iN h738) (et (bnd_of hr771) (et (iN h780) (et (iN h785) (et (iN h790) (et (iN h795) (ip h800))))))))))))))⟩) (by show r507.length - (k521 + 1) < r507.length - k521; omega)
  refine jF (dF h800) (sr (Kz (.bool (decide (((x577.toNat : Nat) : Int) = 101))) (An rfl ?_)))
  by_cases h805 : ((x577.toNat : Nat) : Int) = 101
  refine jT (dT h805) (sr (Mz rfl (Kz (.pointer (some ⟨g24, 0, none⟩)) (Kz (.pointer (some ⟨g24, 11, none⟩)) (An rfl (Wp.ret (Fin.blockR (Fin.thenR (rs (Mz rfl (Kz (.pointer (some ⟨g24, 11, none⟩)) ?_)))))))))))
  have H806 := H774.pick [2, 0, 1, 3, 4, 5, 6, 7] (by decide) rfl
  refine sto [.int .u64 ((r769 : Nat) : Int)] 11 H806 Tryz.sizeOf22 ?_
  intro w807 H808
  refine WL.nil (Fin.blockN (Fin.blockN (Fin.then (Wp.region (fw (.int .i64 ((k521 + 1 : Nat) : Int)) (Yl.int (e := IntKind.i64.wrap (((k521 : Nat) : Int) + 1)) yk (by rw [IntWalk.i64_in _ (by omega)]; omega)) (Mz rfl (WL.nil ?_)))))))
  have H809 := H808.pick [2, 0, 1, 3, 4, 5, 6, 7] (by decide) rfl
  exact Fin.round (k521 + 1, z522, z523, k524, k525, k526, k527, k528, r769, k530, k531, k532, b533, s534, s535, A536, c537, l538, A539, c540, d542, l541, A543, c544, l545, A775, c776, r770.xB.ls, r770.xE) ⟨rfl, rfl, rfl, rfl, rfl, rfl, trivial⟩ (dm557.2 ⟨H809, by exact hi559, by exact (SubS.trans hi560 hs777), by omega, by first | omega | exact Nat.zero_le _, by first | omega | exact Nat.zero_le _, by first | omega | exact Nat.zero_le _, by omega, by omega, by omega, by omega, by omega, by omega, by omega, by omega, by omega, et (hq558) (et (congrArg (fun q => r18_R_msg_L1 r35 r468 r488 q z522 z523 k524 k525 k526 k527 k528 k529 k530 k531 k532 b533 s534 s535 l538 l541 l545 l548 z549) hd579) (et (iN h580) (et (iN h602) (et (iN h624) (et (iN h645) (et (iN h685) (et (iN h710) (et (iN h738) (et (bnd_of hr771) (et (iN h780) (et (iN h785) (et (iN h790) (et (iN h795) (et (iN h800) (ip h805)))))))))))))))⟩) (by show r507.length - (k521 + 1) < r507.length - k521; omega)
  refine jF (dF h805) (sr (Kz (.bool (decide (((x577.toNat : Nat) : Int) = 109))) (An rfl ?_)))
  by_cases h810 : ((x577.toNat : Nat) : Int) = 109
  refine jT (dT h810) (sr (Mz rfl (Kz (.pointer (some ⟨g24, 0, none⟩)) (Kz (.pointer (some ⟨g24, 12, none⟩)) (An rfl (Wp.ret (Fin.blockR (Fin.thenR (rs (Mz rfl (Kz (.pointer (some ⟨g24, 12, none⟩)) ?_)))))))))))
  have H811 := H774.pick [2, 0, 1, 3, 4, 5, 6, 7] (by decide) rfl
  refine sto [.int .u64 ((r769 : Nat) : Int)] 12 H811 Tryz.sizeOf22 ?_
  intro w812 H813
  refine WL.nil (Fin.blockN (Fin.blockN (Fin.then (Wp.region (fw (.int .i64 ((k521 + 1 : Nat) : Int)) (Yl.int (e := IntKind.i64.wrap (((k521 : Nat) : Int) + 1)) yk (by rw [IntWalk.i64_in _ (by omega)]; omega)) (Mz rfl (WL.nil ?_)))))))
  have H814 := H813.pick [2, 0, 1, 3, 4, 5, 6, 7] (by decide) rfl
  exact Fin.round (k521 + 1, z522, z523, k524, k525, k526, k527, k528, k529, r769, k531, k532, b533, s534, s535, A536, c537, l538, A539, c540, d542, l541, A543, c544, l545, A775, c776, r770.xB.ls, r770.xE) ⟨rfl, rfl, rfl, rfl, rfl, rfl, trivial⟩ (dm557.2 ⟨H814, by exact hi559, by exact (SubS.trans hi560 hs777), by omega, by first | omega | exact Nat.zero_le _, by first | omega | exact Nat.zero_le _, by first | omega | exact Nat.zero_le _, by omega, by omega, by omega, by omega, by omega, by omega, by omega, by omega, by omega, et (hq558) (et (congrArg (fun q => r18_R_msg_L1 r35 r468 r488 q z522 z523 k524 k525 k526 k527 k528 k529 k530 k531 k532 b533 s534 s535 l538 l541 l545 l548 z549) hd579) (et (iN h580) (et (iN h602) (et (iN h624) (et (iN h645) (et (iN h685) (et (iN h710) (et (iN h738) (et (bnd_of hr771) (et (iN h780) (et (iN h785) (et (iN h790) (et (iN h795) (et (iN h800) (et (iN h805) (ip h810))))))))))))))))⟩) (by show r507.length - (k521 + 1) < r507.length - k521; omega)
  refine jF (dF h810) (sr (Kz (.bool (decide (((x577.toNat : Nat) : Int) = 97))) (An rfl ?_)))
  by_cases h815 : ((x577.toNat : Nat) : Int) = 97
  refine jT (dT h815) (sr (Mz rfl (Kz (.pointer (some ⟨g24, 0, none⟩)) (Kz (.pointer (some ⟨g24, 13, none⟩)) (An rfl (Wp.ret (Fin.blockR (Fin.thenR (rs (Mz rfl (Kz (.pointer (some ⟨g24, 13, none⟩)) ?_)))))))))))
  have H816 := H774.pick [2, 0, 1, 3, 4, 5, 6, 7] (by decide) rfl
  refine sto [.int .u64 ((r769 : Nat) : Int)] 13 H816 Tryz.sizeOf22 ?_
  intro w817 H818
  refine WL.nil (Fin.blockN (Fin.blockN (Fin.then (Wp.region (fw (.int .i64 ((k521 + 1 : Nat) : Int)) (Yl.int (e := IntKind.i64.wrap (((k521 : Nat) : Int) + 1)) yk (by rw [IntWalk.i64_in _ (by omega)]; omega)) (Mz rfl (WL.nil ?_)))))))
  have H819 := H818.pick [2, 0, 1, 3, 4, 5, 6, 7] (by decide) rfl
  exact Fin.round (k521 + 1, z522, z523, k524, k525, k526, k527, k528, k529, k530, r769, k532, b533, s534, s535, A536, c537, l538, A539, c540, d542, l541, A543, c544, l545, A775, c776, r770.xB.ls, r770.xE) ⟨rfl, rfl, rfl, rfl, rfl, rfl, trivial⟩ (dm557.2 ⟨H819, by exact hi559, by exact (SubS.trans hi560 hs777), by omega, by first | omega | exact Nat.zero_le _, by first | omega | exact Nat.zero_le _, by first | omega | exact Nat.zero_le _, by omega, by omega, by omega, by omega, by omega, by omega, by omega, by omega, by omega, et (hq558) (et (congrArg (fun q => r18_R_msg_L1 r35 r468 r488 q z522 z523 k524 k525 k526 k527 k528 k529 k530 k531 k532 b533 s534 s535 l538 l541 l545 l548 z549) hd579) (et (iN h580) (et (iN h602) (et (iN h624) (et (iN h645) (et (iN h685) (et (iN h710) (et (iN h738) (et (bnd_of hr771) (et (iN h780) (et (iN h785) (et (iN h790) (et (iN h795) (et (iN h800) (et (iN h805) (et (iN h810) (ip h815)))))))))))))))))⟩) (by show r507.length - (k521 + 1) < r507.length - k521; omega)
  refine jF (dF h815) (sr (Kz (.bool (decide (((x577.toNat : Nat) : Int) = 110))) (An rfl ?_)))
  by_cases h820 : ((x577.toNat : Nat) : Int) = 110
  refine jT (dT h820) (sr (Mz rfl (Kz (.pointer (some ⟨g24, 0, none⟩)) (Kz (.pointer (some ⟨g24, 14, none⟩)) (An rfl (Wp.ret (Fin.blockR (Fin.thenR (rs (Mz rfl (Kz (.pointer (some ⟨g24, 14, none⟩)) ?_)))))))))))
  have H821 := H774.pick [2, 0, 1, 3, 4, 5, 6, 7] (by decide) rfl
  refine sto [.int .u64 ((r769 : Nat) : Int)] 14 H821 Tryz.sizeOf22 ?_
  intro w822 H823
  refine WL.nil (Fin.blockN (Fin.blockN (Fin.then (Wp.region (fw (.int .i64 ((k521 + 1 : Nat) : Int)) (Yl.int (e := IntKind.i64.wrap (((k521 : Nat) : Int) + 1)) yk (by rw [IntWalk.i64_in _ (by omega)]; omega)) (Mz rfl (WL.nil ?_)))))))
  have H824 := H823.pick [2, 0, 1, 3, 4, 5, 6, 7] (by decide) rfl
  exact Fin.round (k521 + 1, z522, z523, k524, k525, k526, k527, k528, k529, k530, k531, r769, b533, s534, s535, A536, c537, l538, A539, c540, d542, l541, A543, c544, l545, A775, c776, r770.xB.ls, r770.xE) ⟨rfl, rfl, rfl, rfl, rfl, rfl, trivial⟩ (dm557.2 ⟨H824, by exact hi559, by exact (SubS.trans hi560 hs777), by omega, by first | omega | exact Nat.zero_le _, by first | omega | exact Nat.zero_le _, by first | omega | exact Nat.zero_le _, by omega, by omega, by omega, by omega, by omega, by omega, by omega, by omega, by omega, et (hq558) (et (congrArg (fun q => r18_R_msg_L1 r35 r468 r488 q z522 z523 k524 k525 k526 k527 k528 k529 k530 k531 k532 b533 s534 s535 l538 l541 l545 l548 z549) hd579) (et (iN h580) (et (iN h602) (et (iN h624) (et (iN h645) (et (iN h685) (et (iN h710) (et (iN h738) (et (bnd_of hr771) (et (iN h780) (et (iN h785) (et (iN h790) (et (iN h795) (et (iN h800) (et (iN h805) (et (iN h810) (et (iN h815) (ip h820))))))))))))))))))⟩) (by show r507.length - (k521 + 1) < r507.length - k521; omega)
  exfalso; have q9 := r18_let hr508 hx578; omega
  refine jF (dF h576) (Wp.exit (Fin.thenX ?_))
  have hL825 : r18_R_msg_L1 r35 r468 r488 r507 0 0 0 0 0 0 0 0 0 0 0 false ([]) ([]) ([]) ([]) ([]) r489.xB.ls r489.xE = (k524, k525, k526, k527, k528, l541, z522, z523, k529, k530, k531, k532, b533, s534, s535, l538, l545, l548, z549) := et (hq558) (et (congrArg (fun q => r18_R_msg_L1 r35 r468 r488 q z522 z523 k524 k525 k526 k527 k528 k529 k530 k531 k532 b533 s534 s535 l538 l541 l545 l548 z549) (drop_end (ls := r507) (i := k521) (by omega))) rfl)
  refine Fin.thenX (Fin.blockX (Fin.then (sr (La (MsgC r35 r468 r488 0 z522 z523 k524 k525 k526 k527 k528 k529 k530 k531 k532 b533 s534 s535 A536 l538.length c537 A539 l541.length c540 A543 l545.length c544) H553 1 Tryz.isAgg29 Tryz.sizeOf29 ?_))))
  have H826 := H553.pick [3, 0, 1, 2, 4, 5, 6, 7] (by decide) rfl
  refine sto (MsgC r35 r468 r488 0 z522 z523 k524 k525 k526 k527 k528 k529 k530 k531 k532 b533 s534 s535 A536 l538.length c537 A539 l541.length c540 A543 l545.length c544) 0 H826 Tryz.sizeOf29 ?_
  intro w827 H828
  refine nt (Wp.ret (Fin.res (resC rfl rfl (Lds.agg (cs := (MsgC r35 r468 r488 0 z522 z523 k524 k525 k526 k527 k528 k529 k530 k531 k532 b533 s534 s535 A536 l538.length c537 A539 l541.length c540 A543 l545.length c544)) Tryz.isAgg29 Tryz.sizeOf29 ((H828.cls (i := 0) rfl).lit (k := 0) (m := 21) rfl))) ?_))
  have H829 := H828.pick [4, 5, 6, 7, 3] (by decide) rfl
  have e : r18_R_msg p0 = (MsgT.mk r35 r468 r488 0 z522 z523 k524 k525 k526 k527 k528 k529 k530 k531 k532 b533 (RangeD.mk s534 s535) (Ll.mk l538) (Ll.mk l541) (Ll.mk l545), RT.mk (Ll.mk l548) z549) := et (bnd_of hr37) (et (iN h49) (et (bnd_of hr470) (et (bnd_of hr490) (et (bnd_of hr508) (bnd_of hL825)))))
  obtain ⟨rfl, rfl⟩ := pj2 (e.symm.trans hr)
  exact ⟨A536, c537, A539, c540, A543, c544, d542, A546, c547, rfl, H829, hi559, (SubS.trans (SubS.trans (SubS.trans hs43 hs476) hs496) hi560), (by first | omega | (dsimp only; omega) | (simp only [List.length_nil]; omega) | (refine ⟨?_, ?_⟩ <;> (dsimp only; omega)))⟩
def r18_Decode (l0 : List UInt8) : MsgT × Int :=
  bnd (r05_Open l0) fun yr29 => if yr29.2 = 0 then bnd (r18_R_msg (RT.mk (Ll.mk yr29.1) 0)) fun yr48 => if yr48.2.xE = 0 then if ((yr48.2.xB.ls.length : Nat) : Int) > 0 then bnd (r18_R_Fail yr48.2 11) fun yr84 => if yr84.xE = 0 then bnd (r18_Check yr48.1) fun yr100 => if yr100 = 0 then (yr48.1, 0) else (MsgT.mk 0 0 0 0 0 0 0 0 0 0 0 0 0 0 0 false (RangeD.mk ([]) ([])) (Ll.mk ([])) (Ll.mk ([])) (Ll.mk ([])), yr100) else (MsgT.mk 0 0 0 0 0 0 0 0 0 0 0 0 0 0 0 false (RangeD.mk ([]) ([])) (Ll.mk ([])) (Ll.mk ([])) (Ll.mk ([])), yr84.xE) else bnd (r18_Check yr48.1) fun yr136 => if yr136 = 0 then (yr48.1, 0) else (MsgT.mk 0 0 0 0 0 0 0 0 0 0 0 0 0 0 0 false (RangeD.mk ([]) ([])) (Ll.mk ([])) (Ll.mk ([])) (Ll.mk ([])), yr136) else (MsgT.mk 0 0 0 0 0 0 0 0 0 0 0 0 0 0 0 false (RangeD.mk ([]) ([])) (Ll.mk ([])) (Ll.mk ([])) (Ll.mk ([])), yr48.2.xE) else (MsgT.mk 0 0 0 0 0 0 0 0 0 0 0 0 0 0 0 false (RangeD.mk ([]) ([])) (Ll.mk ([])) (Ll.mk ([])) (Ll.mk ([])), yr29.2)
set_option maxRecDepth 100000 in
set_option maxHeartbeats 4000000 in
theorem r18_Decode_ok (w : World) (D : Nat → Prop) (A0 : Option Addr) (n0 c0 : Nat) (l0 : List UInt8) (r0 : MsgT) (r1 : Int) (H : Own w D w []) (hx0 : Ro w D fun w' => Rds w' 1 A0 n0 (List.flatMap eB l0)) (hn0 : n0 = l0.length) (hl0 : l0.length * 1 ≤ 211106232532992) (hq0 : l0.length ≤ c0) (hr : r18_Decode l0 = (r0, r1)) :
    Calls Tryz.prog 14 #[.slice A0 n0 c0] w (Ret fun v w' => ∃ (B0x0 : Option Addr) (b0x0 : Nat) (B0x1 : Option Addr) (b0x1 : Nat) (B0x2 : Option Addr) (b0x2 : Nat) (e0x1 : List ResultD), v = .tuple #[.agg (MsgP r0 B0x0 b0x0 B0x1 b0x1 B0x2 b0x2).toArray, .int .i64 r1] ∧ Own w D w' [row B0x0 r0.xOps.ls.length b0x0 (List.flatMap OpD.cells r0.xOps.ls) 64 6, row B0x1 r0.xResults.ls.length b0x1 (List.flatMap ResultD.cells e0x1) 84 3, sepL (List.flatMap ResultD.own e0x1), row B0x2 r0.xOwners.ls.length b0x2 (List.flatMap OwnerD.cells r0.xOwners.ls) 88 2] ∧ (List.map ResultD.abs e0x1 = r0.xResults.ls) ∧ (r0.xOps.ls.length ≤ 1000 ∧ r0.xResults.ls.length ≤ 1000 ∧ r0.xOwners.ls.length ≤ 1000 ∧ r0.xReq ≤ 18446744073709551615 ∧ r0.xBoot ≤ 18446744073709551615 ∧ r0.xTxn ≤ 18446744073709551615 ∧ r0.xLow ≤ 18446744073709551615 ∧ r0.xVer ≤ 18446744073709551615 ∧ r0.xEpoch ≤ 18446744073709551615 ∧ r0.xMove ≤ 18446744073709551615 ∧ r0.xAttempt ≤ 18446744073709551615 ∧ r0.xN ≤ 18446744073709551615)) := by
  subst hn0
  refine Calls.body (args := [.slice A0 l0.length c0]) Tryz.func14 rfl rfl rfl ?_
  show Wp _ _ _ [(0, .slice A0 l0.length c0)] _ _
  refine sr ?_
  refine npw (MsgC 0 0 0 0 0 0 0 0 0 0 0 0 0 0 0 false ([]) ([]) none 0 0 none 0 0 none 0 0) 29 H ?_
  intro g21 w22 H23
  refine Ar rfl (Mz rfl ?_)
  obtain ⟨⟨r29, r30⟩, hr31⟩ : ∃ q : (List UInt8) × Int, r05_Open l0 = q := ⟨_, rfl⟩
  obtain ⟨D24, HP25, ro26, bk27, rr28⟩ := Own.enter0 H23
  refine cl Tryz.call44 (r05_Open_ok _ _ A0 l0.length c0 l0 r29 r30 HP25 (ro26 _ hx0) rfl (by omega) (by first | omega | (simp only [List.length_take, List.length_drop]; omega) | exact Nat.le_refl _) hr31) ?_
  rintro _ w32 ⟨A35, c36, rfl, HQ33, hk37⟩
  have H34 := bk27 _ _ HQ33
  have hb38 := H34.rowC (i := 0) rfl
  replace hk37 : r29.length ≤ l0.length := hk37
  refine Mz rfl (Kz (.slice A35 r29.length c36) (Kz (.int .i64 r30) (Az rfl (An rfl (Wp.seq (sr (Mz rfl (fw (.bool (decide (¬ (r30 = 0)))) (Yl.bool (e := !(decide (r30 = 0))) yk decide_not.symm) (nt ?_)))))))))
  by_cases h39 : r30 = 0
  refine jF (dF (not_not_intro h39)) (Wp.skip (Fin.then (sr (Mz rfl (Kz (.agg #[.slice A35 r29.length c36, .int .i64 0]) ?_)))))
  refine npw [.slice A35 r29.length c36, .int .i64 0] 75 H34 ?_
  intro g40 w41 H42
  refine Ar rfl (Mz rfl ?_)
  obtain ⟨⟨r48, r49⟩, hr50⟩ : ∃ q : MsgT × RT, r18_R_msg (RT.mk (Ll.mk r29) 0) = q := ⟨_, rfl⟩
  obtain ⟨D43, HP44, ro45, bk46, rr47⟩ := Own.enter1 H42
  refine cl Tryz.call45 (r18_R_msg_ok _ _ g40 (RT.mk (Ll.mk r29) 0) A35 c36 r48 r49 HP44 (rr47 _ 0 _ rfl row_rds) (show r29.length ≤ c36 ∧ r29.length ≤ 9223372036854775807 from by omega) hr50) ?_
  rintro _ w51 ⟨A54, c55, A56, c57, A58, c59, d60, A62, c63, rfl, HQ52, hd61, hs64, hk65⟩
  have H53 := bk46 _ _ HQ52
  replace hs64 : SubS 1 A35 c36 r29 A62 c63 r49.xB.ls := hs64
  have hz66 := (hs64).le
  have hl67 := abs_len hd61
  have hb68 := H53.rowC (i := 0) rfl
  have hb69 := H53.rowC (i := 1) rfl
  have hb70 := H53.rowC (i := 3) rfl
  replace hk65 : r48.xOps.ls.length ≤ 1000 ∧ r48.xResults.ls.length ≤ 1000 ∧ r48.xOwners.ls.length ≤ 1000 ∧ r48.xReq ≤ 18446744073709551615 ∧ r48.xBoot ≤ 18446744073709551615 ∧ r48.xTxn ≤ 18446744073709551615 ∧ r48.xLow ≤ 18446744073709551615 ∧ r48.xVer ≤ 18446744073709551615 ∧ r48.xEpoch ≤ 18446744073709551615 ∧ r48.xMove ≤ 18446744073709551615 ∧ r48.xAttempt ≤ 18446744073709551615 ∧ r48.xN ≤ 18446744073709551615 := hk65
  refine npw (MsgC 0 0 0 0 0 0 0 0 0 0 0 0 0 0 0 false ([]) ([]) none 0 0 none 0 0 none 0 0) 29 H53 ?_
  intro g71 w72 H73
  refine sto (MsgP r48 A54 c55 A56 c57 A58 c59) 0 H73 Tryz.sizeOf29 ?_
  intro w74 H75
  refine nt (Wp.seq (sr (Mz rfl (Kz (.pointer (some ⟨g40, 0, none⟩)) (Kz (.pointer (some ⟨g40, 1, none⟩)) (Lz (.int .i64 r49.xE) H75 5 Tryz.isAgg32 (Kz (.bool (decide (r49.xE = 0))) (Mz rfl ?_))))))))
  by_cases h76 : r49.xE = 0
  refine WL.valG (v := .pointer (some ⟨g40, 0, none⟩)) rfl rfl (dT h76) rfl (Yl.move rfl) (Gz (.pointer (some ⟨g40, 0, none⟩)) (dT h76) (Gz (.pointer (some ⟨g40, 0, none⟩)) (dT h76) (Gl (.slice A62 r49.xB.ls.length c63) (dT h76) H75 5 Tryz.isAgg31 (Gz (.int .i64 ((r49.xB.ls.length : Nat) : Int)) (dT h76) (Gz (.bool (decide (((r49.xB.ls.length : Nat) : Int) > 0))) (dT h76) (fw (.bool (decide (((r49.xB.ls.length : Nat) : Int) > 0))) (Yl.pickT rfl (dT h76) rfl) (nt ?_)))))))
  by_cases h77 : ((r49.xB.ls.length : Nat) : Int) > 0
  refine jT (dT h77) (Wp.region (Mz rfl ?_))
  have H78 := H75.pick [5, 0, 1, 2, 3, 4, 6, 7] (by decide) rfl
  obtain ⟨r84, hr85⟩ : ∃ q, r18_R_Fail r49 11 = q := ⟨_, rfl⟩
  obtain ⟨D79, HP80, ro81, bk82, rr83⟩ := Own.enter1 H78
  refine cl Tryz.call46 (r18_R_Fail_ok _ _ g40 r49 A62 c63 11 r84 HP80 (fun w9 h9 => SubS.rds eB_len (by decide) hs64 ((rr83 _ 5 _ rfl row_rds) w9 h9)) (show r49.xB.ls.length ≤ c63 ∧ r49.xB.ls.length ≤ 9223372036854775807 from by omega) hr85) ?_
  rintro _ w86 ⟨A89, c90, rfl, HQ87, hs91⟩
  have H88 := bk82 _ _ HQ87
  replace hs91 : SubS 1 A62 c63 r49.xB.ls A89 c90 r84.xB.ls := hs91
  have hz92 := (hs91).le
  refine nt (Wp.seq (sr (Mz rfl (Kz (.pointer (some ⟨g40, 0, none⟩)) (Kz (.pointer (some ⟨g40, 1, none⟩)) (Lz (.int .i64 r84.xE) H88 0 Tryz.isAgg32 (fw (.bool (decide (¬ (r84.xE = 0)))) (Yl.bool (e := !(decide (r84.xE = 0))) yk decide_not.symm) (nt ?_))))))))
  by_cases h93 : r84.xE = 0
  refine jF (dF (not_not_intro h93)) (Wp.skip (Fin.then (Wp.seq (Wp.seq ?_))))
  have H94 := H88.pick [1, 2, 3, 4, 5, 7] (by decide) rfl
  refine Wp.region (La (MsgP r48 A54 c55 A56 c57 A58 c59) H94 0 Tryz.isAgg29 Tryz.sizeOf29 ?_)
  obtain ⟨r100, hr101⟩ : ∃ q, r18_Check r48 = q := ⟨_, rfl⟩
  obtain ⟨D95, HP96, ro97, bk98, rr99⟩ := Own.enter0 H94
  refine cl Tryz.call12 (r18_Check_ok _ _ r48 A54 r48.xOps.ls.length c55 A56 r48.xResults.ls.length c57 d60 A58 r48.xOwners.ls.length c59 r100 HP96 rfl (rr99 _ 1 _ rfl row_rds) (show r48.xOps.ls.length ≤ c55 ∧ r48.xOps.ls.length ≤ 9223372036854775807 from by omega) hd61 rfl (rr99 _ 2 _ rfl row_rds) (show r48.xResults.ls.length ≤ c57 ∧ r48.xResults.ls.length ≤ 9223372036854775807 from by omega) (fun x9 h9 => ⟨rr99 _ 3 _ rfl (sepL_mem (List.mem_flatMap.2 ⟨x9, h9, .head _⟩) row_rds), own_rd (φ := fun _ => _) H94 (i := 3) rfl (sepL_mem (List.mem_flatMap.2 ⟨x9, h9, .head _⟩) row_le2)⟩) rfl (rr99 _ 4 _ rfl row_rds) (show r48.xOwners.ls.length ≤ c59 ∧ r48.xOwners.ls.length ≤ 9223372036854775807 from by omega) hr101) ?_
  rintro _ w102 ⟨rfl, HQ103⟩
  have H104 := bk98 _ _ HQ103
  refine Ar rfl (Mz rfl (fw (.bool (decide (¬ (r100 = 0)))) (Yl.bool (e := !(decide (r100 = 0))) yk decide_not.symm) (nt ?_)))
  by_cases h105 : r100 = 0
  refine jF (dF (not_not_intro h105)) (Wp.skip (Fin.then (sr (La (MsgP r48 A54 c55 A56 c57 A58 c59) H104 0 Tryz.isAgg29 Tryz.sizeOf29 ?_))))
  have H106 := H104.pick [5, 0, 1, 2, 3, 4] (by decide) rfl
  refine sto (MsgP r48 A54 c55 A56 c57 A58 c59) 0 H106 Tryz.sizeOf29 ?_
  intro w107 H108
  refine An rfl (Wp.ret (Fin.res (resN (vs := [.agg (MsgP r48 A54 c55 A56 c57 A58 c59).toArray, .int .i64 0]) rfl (ResV.cell rfl (Lds.agg (cs := (MsgP r48 A54 c55 A56 c57 A58 c59)) Tryz.isAgg29 Tryz.sizeOf29 ((H108.cls (i := 0) rfl).lit (k := 0) (m := 21) rfl)) (ResV.tmp rfl ResV.nil)) (Nat.le_of_ble_eq_true rfl)) ?_))
  have H109 := H108.pick [2, 3, 4, 5] (by decide) rfl
  have e : r18_Decode l0 = (r48, 0) := et (bnd_of hr31) (et (ip h39) (et (bnd_of hr50) (et (ip h76) (et (ip h77) (et (bnd_of hr85) (et (ip h93) (et (bnd_of hr101) (ip h105))))))))
  obtain ⟨rfl, rfl⟩ := pj2 (e.symm.trans hr)
  exact ⟨A54, c55, A56, c57, A58, c59, d60, rfl, H109, hd61, (by first | omega | (dsimp only; omega) | (simp only [List.length_nil]; omega) | (refine ⟨?_, ?_⟩ <;> (dsimp only; omega)))⟩
  refine jT (dT h105) (sr (Kz (.agg (MsgC 0 0 0 0 0 0 0 0 0 0 0 0 0 0 0 false ([]) ([]) none 0 0 none 0 0 none 0 0).toArray) (Mz rfl ?_)))
  have H110 := H104.pick [5, 0, 1, 2, 3, 4] (by decide) rfl
  refine sto (MsgC 0 0 0 0 0 0 0 0 0 0 0 0 0 0 0 false ([]) ([]) none 0 0 none 0 0 none 0 0) 0 H110 Tryz.sizeOf29 ?_
  intro w111 H112
  refine An rfl (Wp.ret (Fin.thenR (Fin.res (resN (vs := [.agg (MsgC 0 0 0 0 0 0 0 0 0 0 0 0 0 0 0 false ([]) ([]) none 0 0 none 0 0 none 0 0).toArray, .int .i64 r100]) rfl (ResV.cell rfl (Lds.agg (cs := (MsgC 0 0 0 0 0 0 0 0 0 0 0 0 0 0 0 false ([]) ([]) none 0 0 none 0 0 none 0 0)) Tryz.isAgg29 Tryz.sizeOf29 ((H112.cls (i := 0) rfl).lit (k := 0) (m := 21) rfl)) (ResV.tmp rfl ResV.nil)) (Nat.le_of_ble_eq_true rfl)) ?_)))
  have H113 : Own w D w111 [row none 0 0 (List.flatMap OpD.cells ([])) 64 6, blk g21 (MsgC 0 0 0 0 0 0 0 0 0 0 0 0 0 0 0 false ([]) ([]) none 0 0 none 0 0 none 0 0) 29, blk g71 (MsgP r48 A54 c55 A56 c57 A58 c59) 29, row A54 r48.xOps.ls.length c55 (List.flatMap OpD.cells r48.xOps.ls) 64 6, row A56 r48.xResults.ls.length c57 (List.flatMap ResultD.cells d60) 84 3, sepL (List.flatMap ResultD.own d60), row A58 r48.xOwners.ls.length c59 (List.flatMap OwnerD.cells r48.xOwners.ls) 88 2] := H112.free (row_nil 64 6)
  have H114 : Own w D w111 [sepL (List.flatMap ResultD.own ([])), row none 0 0 (List.flatMap OpD.cells ([])) 64 6, blk g21 (MsgC 0 0 0 0 0 0 0 0 0 0 0 0 0 0 0 false ([]) ([]) none 0 0 none 0 0 none 0 0) 29, blk g71 (MsgP r48 A54 c55 A56 c57 A58 c59) 29, row A54 r48.xOps.ls.length c55 (List.flatMap OpD.cells r48.xOps.ls) 64 6, row A56 r48.xResults.ls.length c57 (List.flatMap ResultD.cells d60) 84 3, sepL (List.flatMap ResultD.own d60), row A58 r48.xOwners.ls.length c59 (List.flatMap OwnerD.cells r48.xOwners.ls) 88 2] := H113.sepNil
  have H115 : Own w D w111 [row none 0 0 (List.flatMap ResultD.cells ([])) 84 3, sepL (List.flatMap ResultD.own ([])), row none 0 0 (List.flatMap OpD.cells ([])) 64 6, blk g21 (MsgC 0 0 0 0 0 0 0 0 0 0 0 0 0 0 0 false ([]) ([]) none 0 0 none 0 0 none 0 0) 29, blk g71 (MsgP r48 A54 c55 A56 c57 A58 c59) 29, row A54 r48.xOps.ls.length c55 (List.flatMap OpD.cells r48.xOps.ls) 64 6, row A56 r48.xResults.ls.length c57 (List.flatMap ResultD.cells d60) 84 3, sepL (List.flatMap ResultD.own d60), row A58 r48.xOwners.ls.length c59 (List.flatMap OwnerD.cells r48.xOwners.ls) 88 2] := H114.free (row_nil 84 3)
  have H116 : Own w D w111 [row none 0 0 (List.flatMap OwnerD.cells ([])) 88 2, row none 0 0 (List.flatMap ResultD.cells ([])) 84 3, sepL (List.flatMap ResultD.own ([])), row none 0 0 (List.flatMap OpD.cells ([])) 64 6, blk g21 (MsgC 0 0 0 0 0 0 0 0 0 0 0 0 0 0 0 false ([]) ([]) none 0 0 none 0 0 none 0 0) 29, blk g71 (MsgP r48 A54 c55 A56 c57 A58 c59) 29, row A54 r48.xOps.ls.length c55 (List.flatMap OpD.cells r48.xOps.ls) 64 6, row A56 r48.xResults.ls.length c57 (List.flatMap ResultD.cells d60) 84 3, sepL (List.flatMap ResultD.own d60), row A58 r48.xOwners.ls.length c59 (List.flatMap OwnerD.cells r48.xOwners.ls) 88 2] := H115.free (row_nil 88 2)
  have H117 := H116.pick [3, 1, 2, 0] (by decide) rfl
  have e : r18_Decode l0 = (MsgT.mk 0 0 0 0 0 0 0 0 0 0 0 0 0 0 0 false (RangeD.mk ([]) ([])) (Ll.mk ([])) (Ll.mk ([])) (Ll.mk ([])), r100) := et (bnd_of hr31) (et (ip h39) (et (bnd_of hr50) (et (ip h76) (et (ip h77) (et (bnd_of hr85) (et (ip h93) (et (bnd_of hr101) (iN h105))))))))
  obtain ⟨rfl, rfl⟩ := pj2 (e.symm.trans hr)
  exact ⟨none, 0, none, 0, none, 0, [], rfl, H117, rfl, (by first | omega | (dsimp only; omega) | (simp only [List.length_nil]; omega) | (refine ⟨?_, ?_⟩ <;> (dsimp only; omega)))⟩
  refine jT (dT h93) (Wp.seq ?_)
  have H119 := H88.drew
  refine Wp.drawnX [] (fun W => ∃ L', Own w D W ([blk g40 [.slice A89 r84.xB.ls.length c90, .int .i64 r84.xE] 75, blk g71 (MsgP r48 A54 c55 A56 c57 A58 c59) 29, row A54 r48.xOps.ls.length c55 (List.flatMap OpD.cells r48.xOps.ls) 64 6, row A56 r48.xResults.ls.length c57 (List.flatMap ResultD.cells d60) 84 3, sepL (List.flatMap ResultD.own d60), row A58 r48.xOwners.ls.length c59 (List.flatMap OwnerD.cells r48.xOwners.ls) 88 2, row A35 r29.length c36 (List.flatMap eB r29) 5 1] ++ L')) (by kernel_rfl) (by kernel_rfl) (NoP.then (NoP.then NoP.base)) ⟨_, H119⟩ ?_
  revert H119
  generalize World.drew w86 = w118
  intro H119
  refine GX.take (v := .agg (MsgC 0 0 0 0 0 0 0 0 0 0 0 0 0 0 0 false ([]) ([]) none 0 0 none 0 0 none 0 0).toArray) (rs := []) 0 rfl (by kernel_rfl) (fun _ _ => yk) (GX.take (v := .pointer (some ⟨g40, 0, none⟩)) (rs := []) 1 rfl (by kernel_rfl) (fun _ _ => Yl.move rfl) (GX.take (v := .pointer (some ⟨g40, 0, none⟩)) (rs := []) 2 rfl (by kernel_rfl) (fun _ _ => yk) (GX.take (v := .pointer (some ⟨g40, 1, none⟩)) (rs := []) 3 rfl (by kernel_rfl) (fun _ _ => yk) (GX.take (v := .int .i64 r84.xE) (rs := []) 4 rfl (by kernel_rfl) (fun _ ⟨_, H9⟩ => Yl.load rfl (Lds.one Tryz.isAgg32 (Cls.of (H9.cls (i := 0) rfl) rfl))) ?_))))
  have H120 := H119.pick [7, 0, 1, 2, 3, 4, 5, 6] (by decide) rfl
  refine GX.do0 5 rfl (by kernel_rfl) (Do.store (vs := (MsgC 0 0 0 0 0 0 0 0 0 0 0 0 0 0 0 false ([]) ([]) none 0 0 none 0 0 none 0 0)) (o := 0) H120 rfl rfl Tryz.sizeOf29 rfl rfl rfl rfl ?_)
  intro w121 H122
  have H123 := H122.pick [1, 2, 3, 4, 5, 6, 7, 0] (by decide) rfl
  refine ⟨.inr ⟨_, H123⟩, ?_⟩
  refine GX.take (v := .int .i64 r84.xE) (rs := []) 6 rfl (by kernel_rfl) (fun _ _ => Yl.assign rfl) (GX.done (by kernel_rfl) (Fin.then (Wp.ret (Fin.thenR (Fin.res (resN (vs := [.agg (MsgC 0 0 0 0 0 0 0 0 0 0 0 0 0 0 0 false ([]) ([]) none 0 0 none 0 0 none 0 0).toArray, .int .i64 r84.xE]) rfl (ResV.cell rfl (Lds.agg (cs := (MsgC 0 0 0 0 0 0 0 0 0 0 0 0 0 0 0 false ([]) ([]) none 0 0 none 0 0 none 0 0)) Tryz.isAgg29 Tryz.sizeOf29 ((H123.cls (i := 7) rfl).lit (k := 0) (m := 21) rfl)) (ResV.tmp rfl ResV.nil)) (Nat.le_of_ble_eq_true rfl)) ?_)))))
  have H124 : Own w D w121 [row none 0 0 (List.flatMap OpD.cells ([])) 64 6, blk g40 [.slice A89 r84.xB.ls.length c90, .int .i64 r84.xE] 75, blk g71 (MsgP r48 A54 c55 A56 c57 A58 c59) 29, row A54 r48.xOps.ls.length c55 (List.flatMap OpD.cells r48.xOps.ls) 64 6, row A56 r48.xResults.ls.length c57 (List.flatMap ResultD.cells d60) 84 3, sepL (List.flatMap ResultD.own d60), row A58 r48.xOwners.ls.length c59 (List.flatMap OwnerD.cells r48.xOwners.ls) 88 2, row A35 r29.length c36 (List.flatMap eB r29) 5 1, blk g21 (MsgC 0 0 0 0 0 0 0 0 0 0 0 0 0 0 0 false ([]) ([]) none 0 0 none 0 0 none 0 0) 29] := H123.free (row_nil 64 6)
  have H125 : Own w D w121 [sepL (List.flatMap ResultD.own ([])), row none 0 0 (List.flatMap OpD.cells ([])) 64 6, blk g40 [.slice A89 r84.xB.ls.length c90, .int .i64 r84.xE] 75, blk g71 (MsgP r48 A54 c55 A56 c57 A58 c59) 29, row A54 r48.xOps.ls.length c55 (List.flatMap OpD.cells r48.xOps.ls) 64 6, row A56 r48.xResults.ls.length c57 (List.flatMap ResultD.cells d60) 84 3, sepL (List.flatMap ResultD.own d60), row A58 r48.xOwners.ls.length c59 (List.flatMap OwnerD.cells r48.xOwners.ls) 88 2, row A35 r29.length c36 (List.flatMap eB r29) 5 1, blk g21 (MsgC 0 0 0 0 0 0 0 0 0 0 0 0 0 0 0 false ([]) ([]) none 0 0 none 0 0 none 0 0) 29] := H124.sepNil
  have H126 : Own w D w121 [row none 0 0 (List.flatMap ResultD.cells ([])) 84 3, sepL (List.flatMap ResultD.own ([])), row none 0 0 (List.flatMap OpD.cells ([])) 64 6, blk g40 [.slice A89 r84.xB.ls.length c90, .int .i64 r84.xE] 75, blk g71 (MsgP r48 A54 c55 A56 c57 A58 c59) 29, row A54 r48.xOps.ls.length c55 (List.flatMap OpD.cells r48.xOps.ls) 64 6, row A56 r48.xResults.ls.length c57 (List.flatMap ResultD.cells d60) 84 3, sepL (List.flatMap ResultD.own d60), row A58 r48.xOwners.ls.length c59 (List.flatMap OwnerD.cells r48.xOwners.ls) 88 2, row A35 r29.length c36 (List.flatMap eB r29) 5 1, blk g21 (MsgC 0 0 0 0 0 0 0 0 0 0 0 0 0 0 0 false ([]) ([]) none 0 0 none 0 0 none 0 0) 29] := H125.free (row_nil 84 3)
  have H127 : Own w D w121 [row none 0 0 (List.flatMap OwnerD.cells ([])) 88 2, row none 0 0 (List.flatMap ResultD.cells ([])) 84 3, sepL (List.flatMap ResultD.own ([])), row none 0 0 (List.flatMap OpD.cells ([])) 64 6, blk g40 [.slice A89 r84.xB.ls.length c90, .int .i64 r84.xE] 75, blk g71 (MsgP r48 A54 c55 A56 c57 A58 c59) 29, row A54 r48.xOps.ls.length c55 (List.flatMap OpD.cells r48.xOps.ls) 64 6, row A56 r48.xResults.ls.length c57 (List.flatMap ResultD.cells d60) 84 3, sepL (List.flatMap ResultD.own d60), row A58 r48.xOwners.ls.length c59 (List.flatMap OwnerD.cells r48.xOwners.ls) 88 2, row A35 r29.length c36 (List.flatMap eB r29) 5 1, blk g21 (MsgC 0 0 0 0 0 0 0 0 0 0 0 0 0 0 0 false ([]) ([]) none 0 0 none 0 0 none 0 0) 29] := H126.free (row_nil 88 2)
  have H128 := H127.pick [3, 1, 2, 0] (by decide) rfl
  have e : r18_Decode l0 = (MsgT.mk 0 0 0 0 0 0 0 0 0 0 0 0 0 0 0 false (RangeD.mk ([]) ([])) (Ll.mk ([])) (Ll.mk ([])) (Ll.mk ([])), r84.xE) := et (bnd_of hr31) (et (ip h39) (et (bnd_of hr50) (et (ip h76) (et (ip h77) (et (bnd_of hr85) (iN h93))))))
  obtain ⟨rfl, rfl⟩ := pj2 (e.symm.trans hr)
  exact ⟨none, 0, none, 0, none, 0, [], rfl, H128, rfl, (by first | omega | (dsimp only; omega) | (simp only [List.length_nil]; omega) | (refine ⟨?_, ?_⟩ <;> (dsimp only; omega)))⟩
  refine jF (dF h77) (Wp.skip (Fin.then (Wp.seq (sr (Mz rfl (Kz (.pointer (some ⟨g40, 0, none⟩)) (Kz (.pointer (some ⟨g40, 1, none⟩)) (Lz (.int .i64 r49.xE) H75 5 Tryz.isAgg32 (fw (.bool (decide (¬ (r49.xE = 0)))) (Yl.bool (e := !(decide (r49.xE = 0))) yk decide_not.symm) (nt ?_))))))))))
  have hb129 : (decide (¬ (r49.xE = 0))) = false := (dF (by omega))
  refine jF hb129 (Wp.skip (Fin.then (Wp.seq (Wp.seq ?_))))
  have H130 := H75.pick [0, 1, 2, 3, 4, 7] (by decide) rfl
  refine Wp.region (La (MsgP r48 A54 c55 A56 c57 A58 c59) H130 0 Tryz.isAgg29 Tryz.sizeOf29 ?_)
  obtain ⟨r136, hr137⟩ : ∃ q, r18_Check r48 = q := ⟨_, rfl⟩
  obtain ⟨D131, HP132, ro133, bk134, rr135⟩ := Own.enter0 H130
  refine cl Tryz.call12 (r18_Check_ok _ _ r48 A54 r48.xOps.ls.length c55 A56 r48.xResults.ls.length c57 d60 A58 r48.xOwners.ls.length c59 r136 HP132 rfl (rr135 _ 1 _ rfl row_rds) (show r48.xOps.ls.length ≤ c55 ∧ r48.xOps.ls.length ≤ 9223372036854775807 from by omega) hd61 rfl (rr135 _ 2 _ rfl row_rds) (show r48.xResults.ls.length ≤ c57 ∧ r48.xResults.ls.length ≤ 9223372036854775807 from by omega) (fun x9 h9 => ⟨rr135 _ 3 _ rfl (sepL_mem (List.mem_flatMap.2 ⟨x9, h9, .head _⟩) row_rds), own_rd (φ := fun _ => _) H130 (i := 3) rfl (sepL_mem (List.mem_flatMap.2 ⟨x9, h9, .head _⟩) row_le2)⟩) rfl (rr135 _ 4 _ rfl row_rds) (show r48.xOwners.ls.length ≤ c59 ∧ r48.xOwners.ls.length ≤ 9223372036854775807 from by omega) hr137) ?_
  rintro _ w138 ⟨rfl, HQ139⟩
  have H140 := bk134 _ _ HQ139
  refine Ar rfl (Mz rfl (fw (.bool (decide (¬ (r136 = 0)))) (Yl.bool (e := !(decide (r136 = 0))) yk decide_not.symm) (nt ?_)))
  by_cases h141 : r136 = 0
  refine jF (dF (not_not_intro h141)) (Wp.skip (Fin.then (sr (La (MsgP r48 A54 c55 A56 c57 A58 c59) H140 0 Tryz.isAgg29 Tryz.sizeOf29 ?_))))
  have H142 := H140.pick [5, 0, 1, 2, 3, 4] (by decide) rfl
  refine sto (MsgP r48 A54 c55 A56 c57 A58 c59) 0 H142 Tryz.sizeOf29 ?_
  intro w143 H144
  refine An rfl (Wp.ret (Fin.res (resN (vs := [.agg (MsgP r48 A54 c55 A56 c57 A58 c59).toArray, .int .i64 0]) rfl (ResV.cell rfl (Lds.agg (cs := (MsgP r48 A54 c55 A56 c57 A58 c59)) Tryz.isAgg29 Tryz.sizeOf29 ((H144.cls (i := 0) rfl).lit (k := 0) (m := 21) rfl)) (ResV.tmp rfl ResV.nil)) (Nat.le_of_ble_eq_true rfl)) ?_))
  have H145 := H144.pick [2, 3, 4, 5] (by decide) rfl
  have e : r18_Decode l0 = (r48, 0) := et (bnd_of hr31) (et (ip h39) (et (bnd_of hr50) (et (ip h76) (et (iN h77) (et (bnd_of hr137) (ip h141))))))
  obtain ⟨rfl, rfl⟩ := pj2 (e.symm.trans hr)
  exact ⟨A54, c55, A56, c57, A58, c59, d60, rfl, H145, hd61, (by first | omega | (dsimp only; omega) | (simp only [List.length_nil]; omega) | (refine ⟨?_, ?_⟩ <;> (dsimp only; omega)))⟩
  refine jT (dT h141) (sr (Kz (.agg (MsgC 0 0 0 0 0 0 0 0 0 0 0 0 0 0 0 false ([]) ([]) none 0 0 none 0 0 none 0 0).toArray) (Mz rfl ?_)))
  have H146 := H140.pick [5, 0, 1, 2, 3, 4] (by decide) rfl
  refine sto (MsgC 0 0 0 0 0 0 0 0 0 0 0 0 0 0 0 false ([]) ([]) none 0 0 none 0 0 none 0 0) 0 H146 Tryz.sizeOf29 ?_
  intro w147 H148
  refine An rfl (Wp.ret (Fin.thenR (Fin.res (resN (vs := [.agg (MsgC 0 0 0 0 0 0 0 0 0 0 0 0 0 0 0 false ([]) ([]) none 0 0 none 0 0 none 0 0).toArray, .int .i64 r136]) rfl (ResV.cell rfl (Lds.agg (cs := (MsgC 0 0 0 0 0 0 0 0 0 0 0 0 0 0 0 false ([]) ([]) none 0 0 none 0 0 none 0 0)) Tryz.isAgg29 Tryz.sizeOf29 ((H148.cls (i := 0) rfl).lit (k := 0) (m := 21) rfl)) (ResV.tmp rfl ResV.nil)) (Nat.le_of_ble_eq_true rfl)) ?_)))
  have H149 : Own w D w147 [row none 0 0 (List.flatMap OpD.cells ([])) 64 6, blk g21 (MsgC 0 0 0 0 0 0 0 0 0 0 0 0 0 0 0 false ([]) ([]) none 0 0 none 0 0 none 0 0) 29, blk g71 (MsgP r48 A54 c55 A56 c57 A58 c59) 29, row A54 r48.xOps.ls.length c55 (List.flatMap OpD.cells r48.xOps.ls) 64 6, row A56 r48.xResults.ls.length c57 (List.flatMap ResultD.cells d60) 84 3, sepL (List.flatMap ResultD.own d60), row A58 r48.xOwners.ls.length c59 (List.flatMap OwnerD.cells r48.xOwners.ls) 88 2] := H148.free (row_nil 64 6)
  have H150 : Own w D w147 [sepL (List.flatMap ResultD.own ([])), row none 0 0 (List.flatMap OpD.cells ([])) 64 6, blk g21 (MsgC 0 0 0 0 0 0 0 0 0 0 0 0 0 0 0 false ([]) ([]) none 0 0 none 0 0 none 0 0) 29, blk g71 (MsgP r48 A54 c55 A56 c57 A58 c59) 29, row A54 r48.xOps.ls.length c55 (List.flatMap OpD.cells r48.xOps.ls) 64 6, row A56 r48.xResults.ls.length c57 (List.flatMap ResultD.cells d60) 84 3, sepL (List.flatMap ResultD.own d60), row A58 r48.xOwners.ls.length c59 (List.flatMap OwnerD.cells r48.xOwners.ls) 88 2] := H149.sepNil
  have H151 : Own w D w147 [row none 0 0 (List.flatMap ResultD.cells ([])) 84 3, sepL (List.flatMap ResultD.own ([])), row none 0 0 (List.flatMap OpD.cells ([])) 64 6, blk g21 (MsgC 0 0 0 0 0 0 0 0 0 0 0 0 0 0 0 false ([]) ([]) none 0 0 none 0 0 none 0 0) 29, blk g71 (MsgP r48 A54 c55 A56 c57 A58 c59) 29, row A54 r48.xOps.ls.length c55 (List.flatMap OpD.cells r48.xOps.ls) 64 6, row A56 r48.xResults.ls.length c57 (List.flatMap ResultD.cells d60) 84 3, sepL (List.flatMap ResultD.own d60), row A58 r48.xOwners.ls.length c59 (List.flatMap OwnerD.cells r48.xOwners.ls) 88 2] := H150.free (row_nil 84 3)
  have H152 : Own w D w147 [row none 0 0 (List.flatMap OwnerD.cells ([])) 88 2, row none 0 0 (List.flatMap ResultD.cells ([])) 84 3, sepL (List.flatMap ResultD.own ([])), row none 0 0 (List.flatMap OpD.cells ([])) 64 6, blk g21 (MsgC 0 0 0 0 0 0 0 0 0 0 0 0 0 0 0 false ([]) ([]) none 0 0 none 0 0 none 0 0) 29, blk g71 (MsgP r48 A54 c55 A56 c57 A58 c59) 29, row A54 r48.xOps.ls.length c55 (List.flatMap OpD.cells r48.xOps.ls) 64 6, row A56 r48.xResults.ls.length c57 (List.flatMap ResultD.cells d60) 84 3, sepL (List.flatMap ResultD.own d60), row A58 r48.xOwners.ls.length c59 (List.flatMap OwnerD.cells r48.xOwners.ls) 88 2] := H151.free (row_nil 88 2)
  have H153 := H152.pick [3, 1, 2, 0] (by decide) rfl
  have e : r18_Decode l0 = (MsgT.mk 0 0 0 0 0 0 0 0 0 0 0 0 0 0 0 false (RangeD.mk ([]) ([])) (Ll.mk ([])) (Ll.mk ([])) (Ll.mk ([])), r136) := et (bnd_of hr31) (et (ip h39) (et (bnd_of hr50) (et (ip h76) (et (iN h77) (et (bnd_of hr137) (iN h141))))))
  obtain ⟨rfl, rfl⟩ := pj2 (e.symm.trans hr)
  exact ⟨none, 0, none, 0, none, 0, [], rfl, H153, rfl, (by first | omega | (dsimp only; omega) | (simp only [List.length_nil]; omega) | (refine ⟨?_, ?_⟩ <;> (dsimp only; omega)))⟩
  refine Sz (dF h76) (Sz (dF h76) (Sz (dF h76) (Sz (dF h76) (Sz (dF h76) (Sz (dF h76) (fw (.bool false) (Yl.pickF rfl (dF h76) rfl) (nt (jf (Wp.skip (Fin.then (Wp.seq (sr (Mz rfl (Kz (.pointer (some ⟨g40, 0, none⟩)) (Kz (.pointer (some ⟨g40, 1, none⟩)) (Lz (.int .i64 r49.xE) H75 5 Tryz.isAgg32 (fw (.bool (decide (¬ (r49.xE = 0)))) (Yl.bool (e := !(decide (r49.xE = 0))) yk decide_not.symm) (nt ?_))))))))))))))))))
  have hb154 : (decide (¬ (r49.xE = 0))) = true := (dT (by omega))
  refine jT hb154 (Wp.seq ?_)
  have H156 := H75.drew
  refine Wp.drawnX [] (fun W => ∃ L', Own w D W ([blk g71 (MsgP r48 A54 c55 A56 c57 A58 c59) 29, row A54 r48.xOps.ls.length c55 (List.flatMap OpD.cells r48.xOps.ls) 64 6, row A56 r48.xResults.ls.length c57 (List.flatMap ResultD.cells d60) 84 3, sepL (List.flatMap ResultD.own d60), row A58 r48.xOwners.ls.length c59 (List.flatMap OwnerD.cells r48.xOwners.ls) 88 2, blk g40 [.slice A62 r49.xB.ls.length c63, .int .i64 r49.xE] 75, row A35 r29.length c36 (List.flatMap eB r29) 5 1] ++ L')) (by kernel_rfl) (by kernel_rfl) (NoP.then (NoP.then NoP.base)) ⟨_, H156⟩ ?_
  revert H156
  generalize World.drew w74 = w155
  intro H156
  refine GX.take (v := .agg (MsgC 0 0 0 0 0 0 0 0 0 0 0 0 0 0 0 false ([]) ([]) none 0 0 none 0 0 none 0 0).toArray) (rs := []) 0 rfl (by kernel_rfl) (fun _ _ => yk) (GX.take (v := .pointer (some ⟨g40, 0, none⟩)) (rs := []) 1 rfl (by kernel_rfl) (fun _ _ => Yl.move rfl) (GX.take (v := .pointer (some ⟨g40, 0, none⟩)) (rs := []) 2 rfl (by kernel_rfl) (fun _ _ => yk) (GX.take (v := .pointer (some ⟨g40, 1, none⟩)) (rs := []) 3 rfl (by kernel_rfl) (fun _ _ => yk) (GX.take (v := .int .i64 r49.xE) (rs := []) 4 rfl (by kernel_rfl) (fun _ ⟨_, H9⟩ => Yl.load rfl (Lds.one Tryz.isAgg32 (Cls.of (H9.cls (i := 5) rfl) rfl))) ?_))))
  have H157 := H156.pick [7, 0, 1, 2, 3, 4, 5, 6] (by decide) rfl
  refine GX.do0 5 rfl (by kernel_rfl) (Do.store (vs := (MsgC 0 0 0 0 0 0 0 0 0 0 0 0 0 0 0 false ([]) ([]) none 0 0 none 0 0 none 0 0)) (o := 0) H157 rfl rfl Tryz.sizeOf29 rfl rfl rfl rfl ?_)
  intro w158 H159
  have H160 := H159.pick [1, 2, 3, 4, 5, 6, 7, 0] (by decide) rfl
  refine ⟨.inr ⟨_, H160⟩, ?_⟩
  refine GX.take (v := .int .i64 r49.xE) (rs := []) 6 rfl (by kernel_rfl) (fun _ _ => Yl.assign rfl) (GX.done (by kernel_rfl) (Fin.then (Wp.ret (Fin.thenR (Fin.res (resN (vs := [.agg (MsgC 0 0 0 0 0 0 0 0 0 0 0 0 0 0 0 false ([]) ([]) none 0 0 none 0 0 none 0 0).toArray, .int .i64 r49.xE]) rfl (ResV.cell rfl (Lds.agg (cs := (MsgC 0 0 0 0 0 0 0 0 0 0 0 0 0 0 0 false ([]) ([]) none 0 0 none 0 0 none 0 0)) Tryz.isAgg29 Tryz.sizeOf29 ((H160.cls (i := 7) rfl).lit (k := 0) (m := 21) rfl)) (ResV.tmp rfl ResV.nil)) (Nat.le_of_ble_eq_true rfl)) ?_)))))
  have H161 : Own w D w158 [row none 0 0 (List.flatMap OpD.cells ([])) 64 6, blk g71 (MsgP r48 A54 c55 A56 c57 A58 c59) 29, row A54 r48.xOps.ls.length c55 (List.flatMap OpD.cells r48.xOps.ls) 64 6, row A56 r48.xResults.ls.length c57 (List.flatMap ResultD.cells d60) 84 3, sepL (List.flatMap ResultD.own d60), row A58 r48.xOwners.ls.length c59 (List.flatMap OwnerD.cells r48.xOwners.ls) 88 2, blk g40 [.slice A62 r49.xB.ls.length c63, .int .i64 r49.xE] 75, row A35 r29.length c36 (List.flatMap eB r29) 5 1, blk g21 (MsgC 0 0 0 0 0 0 0 0 0 0 0 0 0 0 0 false ([]) ([]) none 0 0 none 0 0 none 0 0) 29] := H160.free (row_nil 64 6)
  have H162 : Own w D w158 [sepL (List.flatMap ResultD.own ([])), row none 0 0 (List.flatMap OpD.cells ([])) 64 6, blk g71 (MsgP r48 A54 c55 A56 c57 A58 c59) 29, row A54 r48.xOps.ls.length c55 (List.flatMap OpD.cells r48.xOps.ls) 64 6, row A56 r48.xResults.ls.length c57 (List.flatMap ResultD.cells d60) 84 3, sepL (List.flatMap ResultD.own d60), row A58 r48.xOwners.ls.length c59 (List.flatMap OwnerD.cells r48.xOwners.ls) 88 2, blk g40 [.slice A62 r49.xB.ls.length c63, .int .i64 r49.xE] 75, row A35 r29.length c36 (List.flatMap eB r29) 5 1, blk g21 (MsgC 0 0 0 0 0 0 0 0 0 0 0 0 0 0 0 false ([]) ([]) none 0 0 none 0 0 none 0 0) 29] := H161.sepNil
  have H163 : Own w D w158 [row none 0 0 (List.flatMap ResultD.cells ([])) 84 3, sepL (List.flatMap ResultD.own ([])), row none 0 0 (List.flatMap OpD.cells ([])) 64 6, blk g71 (MsgP r48 A54 c55 A56 c57 A58 c59) 29, row A54 r48.xOps.ls.length c55 (List.flatMap OpD.cells r48.xOps.ls) 64 6, row A56 r48.xResults.ls.length c57 (List.flatMap ResultD.cells d60) 84 3, sepL (List.flatMap ResultD.own d60), row A58 r48.xOwners.ls.length c59 (List.flatMap OwnerD.cells r48.xOwners.ls) 88 2, blk g40 [.slice A62 r49.xB.ls.length c63, .int .i64 r49.xE] 75, row A35 r29.length c36 (List.flatMap eB r29) 5 1, blk g21 (MsgC 0 0 0 0 0 0 0 0 0 0 0 0 0 0 0 false ([]) ([]) none 0 0 none 0 0 none 0 0) 29] := H162.free (row_nil 84 3)
  have H164 : Own w D w158 [row none 0 0 (List.flatMap OwnerD.cells ([])) 88 2, row none 0 0 (List.flatMap ResultD.cells ([])) 84 3, sepL (List.flatMap ResultD.own ([])), row none 0 0 (List.flatMap OpD.cells ([])) 64 6, blk g71 (MsgP r48 A54 c55 A56 c57 A58 c59) 29, row A54 r48.xOps.ls.length c55 (List.flatMap OpD.cells r48.xOps.ls) 64 6, row A56 r48.xResults.ls.length c57 (List.flatMap ResultD.cells d60) 84 3, sepL (List.flatMap ResultD.own d60), row A58 r48.xOwners.ls.length c59 (List.flatMap OwnerD.cells r48.xOwners.ls) 88 2, blk g40 [.slice A62 r49.xB.ls.length c63, .int .i64 r49.xE] 75, row A35 r29.length c36 (List.flatMap eB r29) 5 1, blk g21 (MsgC 0 0 0 0 0 0 0 0 0 0 0 0 0 0 0 false ([]) ([]) none 0 0 none 0 0 none 0 0) 29] := H163.free (row_nil 88 2)
  have H165 := H164.pick [3, 1, 2, 0] (by decide) rfl
  have e : r18_Decode l0 = (MsgT.mk 0 0 0 0 0 0 0 0 0 0 0 0 0 0 0 false (RangeD.mk ([]) ([])) (Ll.mk ([])) (Ll.mk ([])) (Ll.mk ([])), r49.xE) := et (bnd_of hr31) (et (ip h39) (et (bnd_of hr50) (iN h76)))
  obtain ⟨rfl, rfl⟩ := pj2 (e.symm.trans hr)
  exact ⟨none, 0, none, 0, none, 0, [], rfl, H165, rfl, (by first | omega | (dsimp only; omega) | (simp only [List.length_nil]; omega) | (refine ⟨?_, ?_⟩ <;> (dsimp only; omega)))⟩
  refine jT (dT h39) (sr (Kz (.agg (MsgC 0 0 0 0 0 0 0 0 0 0 0 0 0 0 0 false ([]) ([]) none 0 0 none 0 0 none 0 0).toArray) (Mz rfl ?_)))
  have H166 := H34.pick [1, 0] (by decide) rfl
  refine sto (MsgC 0 0 0 0 0 0 0 0 0 0 0 0 0 0 0 false ([]) ([]) none 0 0 none 0 0 none 0 0) 0 H166 Tryz.sizeOf29 ?_
  intro w167 H168
  refine An rfl (Wp.ret (Fin.thenR (Fin.res (resN (vs := [.agg (MsgC 0 0 0 0 0 0 0 0 0 0 0 0 0 0 0 false ([]) ([]) none 0 0 none 0 0 none 0 0).toArray, .int .i64 r30]) rfl (ResV.cell rfl (Lds.agg (cs := (MsgC 0 0 0 0 0 0 0 0 0 0 0 0 0 0 0 false ([]) ([]) none 0 0 none 0 0 none 0 0)) Tryz.isAgg29 Tryz.sizeOf29 ((H168.cls (i := 0) rfl).lit (k := 0) (m := 21) rfl)) (ResV.tmp rfl ResV.nil)) (Nat.le_of_ble_eq_true rfl)) ?_)))
  have H169 : Own w D w167 [row none 0 0 (List.flatMap OpD.cells ([])) 64 6, blk g21 (MsgC 0 0 0 0 0 0 0 0 0 0 0 0 0 0 0 false ([]) ([]) none 0 0 none 0 0 none 0 0) 29, row A35 r29.length c36 (List.flatMap eB r29) 5 1] := H168.free (row_nil 64 6)
  have H170 : Own w D w167 [sepL (List.flatMap ResultD.own ([])), row none 0 0 (List.flatMap OpD.cells ([])) 64 6, blk g21 (MsgC 0 0 0 0 0 0 0 0 0 0 0 0 0 0 0 false ([]) ([]) none 0 0 none 0 0 none 0 0) 29, row A35 r29.length c36 (List.flatMap eB r29) 5 1] := H169.sepNil
  have H171 : Own w D w167 [row none 0 0 (List.flatMap ResultD.cells ([])) 84 3, sepL (List.flatMap ResultD.own ([])), row none 0 0 (List.flatMap OpD.cells ([])) 64 6, blk g21 (MsgC 0 0 0 0 0 0 0 0 0 0 0 0 0 0 0 false ([]) ([]) none 0 0 none 0 0 none 0 0) 29, row A35 r29.length c36 (List.flatMap eB r29) 5 1] := H170.free (row_nil 84 3)
  have H172 : Own w D w167 [row none 0 0 (List.flatMap OwnerD.cells ([])) 88 2, row none 0 0 (List.flatMap ResultD.cells ([])) 84 3, sepL (List.flatMap ResultD.own ([])), row none 0 0 (List.flatMap OpD.cells ([])) 64 6, blk g21 (MsgC 0 0 0 0 0 0 0 0 0 0 0 0 0 0 0 false ([]) ([]) none 0 0 none 0 0 none 0 0) 29, row A35 r29.length c36 (List.flatMap eB r29) 5 1] := H171.free (row_nil 88 2)
  have H173 := H172.pick [3, 1, 2, 0] (by decide) rfl
  have e : r18_Decode l0 = (MsgT.mk 0 0 0 0 0 0 0 0 0 0 0 0 0 0 0 false (RangeD.mk ([]) ([])) (Ll.mk ([])) (Ll.mk ([])) (Ll.mk ([])), r30) := et (bnd_of hr31) (iN h39)
  obtain ⟨rfl, rfl⟩ := pj2 (e.symm.trans hr)
  exact ⟨none, 0, none, 0, none, 0, [], rfl, H173, rfl, (by first | omega | (dsimp only; omega) | (simp only [List.length_nil]; omega) | (refine ⟨?_, ?_⟩ <;> (dsimp only; omega)))⟩
end Go.Proofs.YtccjclalngabhaaGreat
