/-
 wire: the check of a message.
-/
import Derived.Test.YtccjclalngabhaaGreatWb
namespace Go.Proofs.YtccjclalngabhaaGreat
open Go.RowKit
set_option linter.unusedVariables false
set_option linter.unusedSectionVars false
set_option linter.unusedSimpArgs false
def wire_Check_L0 (p0 : MsgT) (r29 : layoutT) : List Int → Int → Int → Nat → Nat → Nat → Nat → Nat → Nat → Nat → Nat → Nat → Bool → List UInt8 → List UInt8 → List OpD → List ResultT → List OwnerD → Int × Int × Nat × Nat × Nat × Nat × Nat × Nat × Nat × Nat × Nat × Bool × (List UInt8) × (List UInt8) × (List OpD) × (List ResultT) × (List OwnerD)
  | [], z74, z75, k76, k77, k78, k79, k80, k81, k82, k83, k84, b85, s86, s87, l90, l93, l97 => (z74, z75, k76, k77, k78, k79, k80, k81, k82, k83, k84, b85, s86, s87, l90, l93, l97)
  | x126 :: q98, z74, z75, k76, k77, k78, k79, k80, k81, k82, k83, k84, b85, s86, s87, l90, l93, l97 => if x126 = 0 then wire_Check_L0 p0 r29 q98 z74 z75 0 k77 k78 k79 k80 k81 k82 k83 k84 b85 s86 s87 l90 l93 l97 else if x126 = 1 then wire_Check_L0 p0 r29 q98 z74 z75 k76 0 k78 k79 k80 k81 k82 k83 k84 b85 s86 s87 l90 l93 l97 else if x126 = 2 then wire_Check_L0 p0 r29 q98 0 z75 k76 k77 k78 k79 k80 k81 k82 k83 k84 b85 s86 s87 l90 l93 l97 else if x126 = 3 then wire_Check_L0 p0 r29 q98 z74 z75 k76 k77 k78 k79 k80 k81 k82 k83 k84 b85 s86 s87 l90 ([]) l97 else if x126 = 4 then wire_Check_L0 p0 r29 q98 z74 z75 k76 k77 0 k79 k80 k81 k82 k83 k84 b85 s86 s87 l90 l93 l97 else if x126 = 5 then wire_Check_L0 p0 r29 q98 z74 z75 k76 k77 k78 0 k80 k81 k82 k83 k84 b85 s86 s87 l90 l93 l97 else if x126 = 6 then wire_Check_L0 p0 r29 q98 z74 z75 k76 k77 k78 k79 k80 0 k82 k83 k84 b85 s86 s87 l90 l93 l97 else if x126 = 7 then wire_Check_L0 p0 r29 q98 z74 z75 k76 k77 k78 k79 k80 k81 k82 k83 k84 b85 s86 s87 ([]) l93 l97 else if x126 = 8 then wire_Check_L0 p0 r29 q98 z74 z75 k76 k77 k78 k79 k80 k81 k82 k83 k84 false s86 s87 l90 l93 l97 else if x126 = 9 then wire_Check_L0 p0 r29 q98 z74 z75 k76 k77 k78 k79 0 k81 k82 k83 k84 b85 s86 s87 l90 l93 l97 else if x126 = 10 then wire_Check_L0 p0 r29 q98 z74 z75 k76 k77 k78 k79 k80 k81 0 k83 k84 b85 s86 s87 l90 l93 l97 else if x126 = 11 then wire_Check_L0 p0 r29 q98 z74 z75 k76 k77 k78 k79 k80 k81 k82 k83 k84 b85 s86 s87 l90 l93 ([]) else if x126 = 12 then wire_Check_L0 p0 r29 q98 z74 0 k76 k77 k78 k79 k80 k81 k82 k83 k84 b85 s86 s87 l90 l93 l97 else if x126 = 13 then wire_Check_L0 p0 r29 q98 z74 z75 k76 k77 k78 k79 k80 k81 k82 k83 k84 b85 ([]) ([]) l90 l93 l97 else if x126 = 14 then wire_Check_L0 p0 r29 q98 z74 z75 k76 k77 k78 k79 k80 k81 k82 0 k84 b85 s86 s87 l90 l93 l97 else if x126 = 15 then wire_Check_L0 p0 r29 q98 z74 z75 k76 k77 k78 k79 k80 k81 k82 k83 0 b85 s86 s87 l90 l93 l97 else wire_Check_L0 p0 r29 q98 z74 z75 k76 k77 k78 k79 k80 k81 k82 k83 k84 b85 s86 s87 l90 l93 l97
def wire_Check (p0 : MsgT) : Int :=
 bnd (wire_layoutOf p0.xKind) fun yr29 => if yr29.2 = true then bnd (wire_role_is yr29.1.xfrom p0.xFrom) fun yr50 => if yr50 = true then bnd (wire_role_is yr29.1.xto p0.xTo) fun yr61 => if yr61 = true then bnd (wire_Check_L0 p0 yr29.1 yr29.1.xfields.ls p0.xCode p0.xPeer p0.xReq p0.xBoot p0.xTxn p0.xLow p0.xVer p0.xEpoch p0.xMove p0.xAttempt p0.xN p0.xFlag p0.xRange.xLo p0.xRange.xHi p0.xOps.ls p0.xResults.ls p0.xOwners.ls) fun sLrbtbtbtL => bnd (wire_blank (MsgT.mk p0.xKind p0.xFrom p0.xTo p0.xClient sLrbtbtbtL.1 sLrbtbtbtL.2.1 sLrbtbtbtL.2.2.1 sLrbtbtbtL.2.2.2.1 sLrbtbtbtL.2.2.2.2.1 sLrbtbtbtL.2.2.2.2.2.1 sLrbtbtbtL.2.2.2.2.2.2.1 sLrbtbtbtL.2.2.2.2.2.2.2.1 sLrbtbtbtL.2.2.2.2.2.2.2.2.1 sLrbtbtbtL.2.2.2.2.2.2.2.2.2.1 sLrbtbtbtL.2.2.2.2.2.2.2.2.2.2.1 sLrbtbtbtL.2.2.2.2.2.2.2.2.2.2.2.1 (RangeD.mk sLrbtbtbtL.2.2.2.2.2.2.2.2.2.2.2.2.1 sLrbtbtbtL.2.2.2.2.2.2.2.2.2.2.2.2.2.1) (Ll.mk sLrbtbtbtL.2.2.2.2.2.2.2.2.2.2.2.2.2.2.1) (Ll.mk sLrbtbtbtL.2.2.2.2.2.2.2.2.2.2.2.2.2.2.2.1) (Ll.mk sLrbtbtbtL.2.2.2.2.2.2.2.2.2.2.2.2.2.2.2.2))) fun yr218 => if yr218 = true then bnd (wire_allMay p0 yr29.1.xfields.ls) fun yr229 => if yr229 = true then if yr29.1.xfrom = 1 then if yr29.1.xto = 1 then if p0.xFrom = p0.xTo then 180 else 0 else 0 else 0 else 180 else 180 else 180 else 180 else 180
set_option maxRecDepth 100000 in
set_option maxHeartbeats 8000000 in
theorem wire_Check_ok (w : World) (D : Nat → Prop) (p0 : MsgT) (A0x0 : Option Addr) (n0x0 c0x0 : Nat) (A0x1 : Option Addr) (n0x1 c0x1 : Nat) (d0x1 : List ResultD) (A0x2 : Option Addr) (n0x2 c0x2 : Nat) (r0 : Int) (H : Own w D w []) (hn0x0 : n0x0 = p0.xOps.ls.length) (hx0x0 : Ro w D fun w' => Rds w' 6 A0x0 p0.xOps.ls.length (List.flatMap OpD.cells p0.xOps.ls)) (hb0x0 : p0.xOps.ls.length ≤ c0x0 ∧ p0.xOps.ls.length ≤ 9223372036854775807) (hd0x1 : List.map ResultD.abs d0x1 = p0.xResults.ls) (hn0x1 : n0x1 = p0.xResults.ls.length) (hx0x1 : Ro w D fun w' => Rds w' 3 A0x1 p0.xResults.ls.length (List.flatMap ResultD.cells d0x1)) (hb0x1 : p0.xResults.ls.length ≤ c0x1 ∧ p0.xResults.ls.length ≤ 9223372036854775807) (hm0x1 : ∀ x ∈ d0x1, Ro w D (fun w' => Rds w' 2 x.xPairs.A x.xPairs.ls.length (List.flatMap PairD.cells x.xPairs.ls)) ∧ (x.xPairs.ls.length ≤ x.xPairs.c ∧ x.xPairs.ls.length ≤ 9223372036854775807)) (hn0x2 : n0x2 = p0.xOwners.ls.length) (hx0x2 : Ro w D fun w' => Rds w' 2 A0x2 p0.xOwners.ls.length (List.flatMap OwnerD.cells p0.xOwners.ls)) (hb0x2 : p0.xOwners.ls.length ≤ c0x2 ∧ p0.xOwners.ls.length ≤ 9223372036854775807) (hh0 : p0.xOps.ls.length ≤ 140737488355328 ∧ p0.xResults.ls.length ≤ 140737488355328 ∧ p0.xOwners.ls.length ≤ 140737488355328) (hr : wire_Check p0 = r0) :
    Calls Tryz.prog 11 #[.agg (MsgC p0.xKind p0.xFrom p0.xTo p0.xClient p0.xCode p0.xPeer p0.xReq p0.xBoot p0.xTxn p0.xLow p0.xVer p0.xEpoch p0.xMove p0.xAttempt p0.xN p0.xFlag p0.xRange.xLo p0.xRange.xHi A0x0 n0x0 c0x0 A0x1 n0x1 c0x1 A0x2 n0x2 c0x2).toArray] w (Ret fun v w' => v = .int .i64 r0 ∧ Own w D w' []) := by
 subst hn0x0 hn0x1 hn0x2
 have hdl0x1 := abs_len hd0x1
 refine Calls.body (args := [.agg (MsgP p0 A0x0 c0x0 A0x1 c0x1 A0x2 c0x2).toArray]) Tryz.func11 rfl rfl rfl ?_
 show Wp _ _ _ [(0, .agg (MsgP p0 A0x0 c0x0 A0x1 c0x1 A0x2 c0x2).toArray)] _ _
 refine sr ?_
 refine npw (MsgP p0 A0x0 c0x0 A0x1 c0x1 A0x2 c0x2) 29 H ?_
 intro g21 w22 H23
 refine Ar rfl (Kz (.pointer (some ⟨g21, 0, none⟩)) (Lz (.int .i64 p0.xKind) H23 0 Tryz.isAgg3 ?_))
 obtain ⟨⟨r29, r30⟩, hr31⟩ : ∃ q : layoutT × Bool, wire_layoutOf p0.xKind = q := ⟨_, rfl⟩
 obtain ⟨D24, HP25, ro26, bk27, rr28⟩ := Own.enter0 H23
 refine cl Tryz.call19 (wire_layoutOf_ok _ _ p0.xKind r29 r30 HP25 hr31) ?_
 rintro _ w32 ⟨A35, c36, rfl, HQ33, hk37⟩
 have H34 := bk27 _ _ HQ33
 have hb38 := H34.rowC (i := 0) rfl
 replace hk37 : r29.xfields.ls.length ≤ 5 := hk37
 refine Mz rfl (Kz (.agg #[.int .i64 r29.xfrom, .int .i64 r29.xto, .slice A35 r29.xfields.ls.length c36]) (Kz (.bool r30) ?_))
 refine npw [.int .i64 0, .int .i64 0, .slice none 0 0] 50 H34 ?_
 intro g39 w40 H41
 refine sto [.int .i64 r29.xfrom, .int .i64 r29.xto, .slice A35 r29.xfields.ls.length c36] 0 H41 Tryz.sizeOf50 ?_
 intro w42 H43
 refine An rfl (Wp.seq (sr (Mz rfl (Kz (.bool (!r30)) (Mz rfl ?_)))))
 rcases Bool.eq_false_or_eq_true (r30) with h44 | h44
 refine Gz (.pointer (some ⟨g39, 0, none⟩)) (cn h44) (Gl (.int .i64 r29.xfrom) (cn h44) H43 0 Tryz.isAgg47 (Gz (.pointer (some ⟨g21, 1, none⟩)) (cn h44) (Gl (.int .i64 p0.xFrom) (cn h44) H43 2 Tryz.isAgg3 ?_)))
 obtain ⟨r50, hr51⟩ : ∃ q, wire_role_is r29.xfrom p0.xFrom = q := ⟨_, rfl⟩
 obtain ⟨D45, HP46, ro47, bk48, rr49⟩ := Own.enter0 H43
 refine clG (cn h44) Tryz.call23 (wire_role_is_ok _ _ r29.xfrom p0.xFrom r50 HP46 hr51) ?_
 rintro _ w52 ⟨rfl, HQ53⟩
 have H54 := bk48 _ _ HQ53
 refine Gz (.bool (!r50)) (cn h44) (fw (.bool (!r50)) (Yl.pickF rfl (cn h44) rfl) (Mz rfl ?_))
 rcases Bool.eq_false_or_eq_true (r50) with h55 | h55
 refine Gz (.pointer (some ⟨g39, 1, none⟩)) (cn h55) (Gl (.int .i64 r29.xto) (cn h55) H54 0 Tryz.isAgg47 (Gz (.pointer (some ⟨g21, 2, none⟩)) (cn h55) (Gl (.int .i64 p0.xTo) (cn h55) H54 2 Tryz.isAgg3 ?_)))
 obtain ⟨r61, hr62⟩ : ∃ q, wire_role_is r29.xto p0.xTo = q := ⟨_, rfl⟩
 obtain ⟨D56, HP57, ro58, bk59, rr60⟩ := Own.enter0 H54
 refine clG (cn h55) Tryz.call23 (wire_role_is_ok _ _ r29.xto p0.xTo r61 HP57 hr62) ?_
 rintro _ w63 ⟨rfl, HQ64⟩
 have H65 := bk59 _ _ HQ64
 refine Gz (.bool (!r61)) (cn h55) (fw (.bool (!r61)) (Yl.pickF rfl (cn h55) rfl) (Mz rfl ?_))
 rcases Bool.eq_false_or_eq_true (r61) with h66 | h66
 refine Ga (MsgP p0 A0x0 c0x0 A0x1 c0x1 A0x2 c0x2) (cn h66) H65 2 Tryz.isAgg29 Tryz.sizeOf29 (Gz (.pointer (some ⟨g39, 2, none⟩)) (cn h66) (Gl (.slice A35 r29.xfields.ls.length c36) (cn h66) H65 0 Tryz.isAgg48 ?_))
 refine WL.doG rfl rfl (cn h66) rfl (Do.call Tryz.call25 rfl ?_ (fun _ _ k => k))
 refine Calls.body (args := [.agg (MsgP p0 A0x0 c0x0 A0x1 c0x1 A0x2 c0x2).toArray, .slice A35 r29.xfields.ls.length c36]) Tryz.func25 rfl rfl rfl ?_
 show Wp _ _ _ [(0, .agg (MsgP p0 A0x0 c0x0 A0x1 c0x1 A0x2 c0x2).toArray), (1, .slice A35 r29.xfields.ls.length c36)] _ _
 refine sr ?_
 refine npw (MsgP p0 A0x0 c0x0 A0x1 c0x1 A0x2 c0x2) 29 H65 ?_
 intro g67 w68 H69
 refine npw (MsgC 0 0 0 0 0 0 0 0 0 0 0 0 0 0 0 false ([]) ([]) none 0 0 none 0 0 none 0 0) 29 H69 ?_
 intro g70 w71 H72
 refine nt (Wp.seq (sr (Mz rfl (Kz (.int .i64 ((r29.xfields.ls.length : Nat) : Int)) (Mn rfl (bo ?_))))))
 have H99 := H72.pk [0, 1, 2, 3, 4]
 obtain ⟨I103, hI104⟩ : ∃ q : (Nat × Int × Int × Nat × Nat × Nat × Nat × Nat × Nat × Nat × Nat × Nat × Bool × (List UInt8) × (List UInt8) × (Option Addr) × Nat × (List OpD) × (Option Addr) × Nat × (List ResultD) × (List ResultT) × (Option Addr) × Nat × (List OwnerD)) → World → Prop, q = fun (i : Nat × Int × Int × Nat × Nat × Nat × Nat × Nat × Nat × Nat × Nat × Nat × Bool × (List UInt8) × (List UInt8) × (Option Addr) × Nat × (List OpD) × (Option Addr) × Nat × (List ResultD) × (List ResultT) × (Option Addr) × Nat × (List OwnerD)) w' => Own w D w' [blk g70 (MsgC 0 0 0 0 0 0 0 0 0 0 0 0 0 0 0 false ([]) ([]) none 0 0 none 0 0 none 0 0) 29, blk g67 (MsgC p0.xKind p0.xFrom p0.xTo p0.xClient i.2.1 i.2.2.1 i.2.2.2.1 i.2.2.2.2.1 i.2.2.2.2.2.1 i.2.2.2.2.2.2.1 i.2.2.2.2.2.2.2.1 i.2.2.2.2.2.2.2.2.1 i.2.2.2.2.2.2.2.2.2.1 i.2.2.2.2.2.2.2.2.2.2.1 i.2.2.2.2.2.2.2.2.2.2.2.1 i.2.2.2.2.2.2.2.2.2.2.2.2.1 i.2.2.2.2.2.2.2.2.2.2.2.2.2.1 i.2.2.2.2.2.2.2.2.2.2.2.2.2.2.1 i.2.2.2.2.2.2.2.2.2.2.2.2.2.2.2.1 i.2.2.2.2.2.2.2.2.2.2.2.2.2.2.2.2.2.1.length i.2.2.2.2.2.2.2.2.2.2.2.2.2.2.2.2.1 i.2.2.2.2.2.2.2.2.2.2.2.2.2.2.2.2.2.2.1 i.2.2.2.2.2.2.2.2.2.2.2.2.2.2.2.2.2.2.2.2.2.1.length i.2.2.2.2.2.2.2.2.2.2.2.2.2.2.2.2.2.2.2.1 i.2.2.2.2.2.2.2.2.2.2.2.2.2.2.2.2.2.2.2.2.2.2.1 i.2.2.2.2.2.2.2.2.2.2.2.2.2.2.2.2.2.2.2.2.2.2.2.2.length i.2.2.2.2.2.2.2.2.2.2.2.2.2.2.2.2.2.2.2.2.2.2.2.1) 29, blk g39 [.int .i64 r29.xfrom, .int .i64 r29.xto, .slice A35 r29.xfields.ls.length c36] 50, row A35 r29.xfields.ls.length c36 (List.flatMap (eI .i64) r29.xfields.ls) 93 1, blk g21 (MsgP p0 A0x0 c0x0 A0x1 c0x1 A0x2 c0x2) 29] ∧ (SubS 6 A0x0 c0x0 p0.xOps.ls i.2.2.2.2.2.2.2.2.2.2.2.2.2.2.2.1 i.2.2.2.2.2.2.2.2.2.2.2.2.2.2.2.2.1 i.2.2.2.2.2.2.2.2.2.2.2.2.2.2.2.2.2.1 ∧ SubS 3 A0x1 c0x1 d0x1 i.2.2.2.2.2.2.2.2.2.2.2.2.2.2.2.2.2.2.1 i.2.2.2.2.2.2.2.2.2.2.2.2.2.2.2.2.2.2.2.1 i.2.2.2.2.2.2.2.2.2.2.2.2.2.2.2.2.2.2.2.2.1 ∧ List.map ResultD.abs i.2.2.2.2.2.2.2.2.2.2.2.2.2.2.2.2.2.2.2.2.1 = i.2.2.2.2.2.2.2.2.2.2.2.2.2.2.2.2.2.2.2.2.2.1 ∧ SubS 2 A0x2 c0x2 p0.xOwners.ls i.2.2.2.2.2.2.2.2.2.2.2.2.2.2.2.2.2.2.2.2.2.2.1 i.2.2.2.2.2.2.2.2.2.2.2.2.2.2.2.2.2.2.2.2.2.2.2.1 i.2.2.2.2.2.2.2.2.2.2.2.2.2.2.2.2.2.2.2.2.2.2.2.2 ∧ i.1 ≤ r29.xfields.ls.length ∧ i.2.2.2.1 ≤ p0.xReq + i.1 ∧ i.2.2.2.2.1 ≤ p0.xBoot + i.1 ∧ i.2.2.2.2.2.1 ≤ p0.xTxn + i.1 ∧ i.2.2.2.2.2.2.1 ≤ p0.xLow + i.1 ∧ i.2.2.2.2.2.2.2.1 ≤ p0.xVer + i.1 ∧ i.2.2.2.2.2.2.2.2.1 ≤ p0.xEpoch + i.1 ∧ i.2.2.2.2.2.2.2.2.2.1 ≤ p0.xMove + i.1 ∧ i.2.2.2.2.2.2.2.2.2.2.1 ≤ p0.xAttempt + i.1 ∧ i.2.2.2.2.2.2.2.2.2.2.2.1 ≤ p0.xN + i.1 ∧ wire_Check_L0 p0 r29 r29.xfields.ls p0.xCode p0.xPeer p0.xReq p0.xBoot p0.xTxn p0.xLow p0.xVer p0.xEpoch p0.xMove p0.xAttempt p0.xN p0.xFlag p0.xRange.xLo p0.xRange.xHi p0.xOps.ls p0.xResults.ls p0.xOwners.ls = wire_Check_L0 p0 r29 (List.drop i.1 r29.xfields.ls) i.2.1 i.2.2.1 i.2.2.2.1 i.2.2.2.2.1 i.2.2.2.2.2.1 i.2.2.2.2.2.2.1 i.2.2.2.2.2.2.2.1 i.2.2.2.2.2.2.2.2.1 i.2.2.2.2.2.2.2.2.2.1 i.2.2.2.2.2.2.2.2.2.2.1 i.2.2.2.2.2.2.2.2.2.2.2.1 i.2.2.2.2.2.2.2.2.2.2.2.2.1 i.2.2.2.2.2.2.2.2.2.2.2.2.2.1 i.2.2.2.2.2.2.2.2.2.2.2.2.2.2.1 i.2.2.2.2.2.2.2.2.2.2.2.2.2.2.2.2.2.1 i.2.2.2.2.2.2.2.2.2.2.2.2.2.2.2.2.2.2.2.2.2.1 i.2.2.2.2.2.2.2.2.2.2.2.2.2.2.2.2.2.2.2.2.2.2.2.2) := ⟨_, rfl⟩
 have dm105 : ∀ {k73 : Nat} {z74 : Int} {z75 : Int} {k76 : Nat} {k77 : Nat} {k78 : Nat} {k79 : Nat} {k80 : Nat} {k81 : Nat} {k82 : Nat} {k83 : Nat} {k84 : Nat} {b85 : Bool} {s86 : List UInt8} {s87 : List UInt8} {A88 : Option Addr} {c89 : Nat} {l90 : List OpD} {A91 : Option Addr} {c92 : Nat} {d94 : List ResultD} {l93 : List ResultT} {A95 : Option Addr} {c96 : Nat} {l97 : List OwnerD} {w' : World}, I103 (k73, z74, z75, k76, k77, k78, k79, k80, k81, k82, k83, k84, b85, s86, s87, A88, c89, l90, A91, c92, d94, l93, A95, c96, l97) w' ↔ Own w D w' [blk g70 (MsgC 0 0 0 0 0 0 0 0 0 0 0 0 0 0 0 false ([]) ([]) none 0 0 none 0 0 none 0 0) 29, blk g67 (MsgC p0.xKind p0.xFrom p0.xTo p0.xClient z74 z75 k76 k77 k78 k79 k80 k81 k82 k83 k84 b85 s86 s87 A88 l90.length c89 A91 l93.length c92 A95 l97.length c96) 29, blk g39 [.int .i64 r29.xfrom, .int .i64 r29.xto, .slice A35 r29.xfields.ls.length c36] 50, row A35 r29.xfields.ls.length c36 (List.flatMap (eI .i64) r29.xfields.ls) 93 1, blk g21 (MsgP p0 A0x0 c0x0 A0x1 c0x1 A0x2 c0x2) 29] ∧ SubS 6 A0x0 c0x0 p0.xOps.ls A88 c89 l90 ∧ SubS 3 A0x1 c0x1 d0x1 A91 c92 d94 ∧ List.map ResultD.abs d94 = l93 ∧ SubS 2 A0x2 c0x2 p0.xOwners.ls A95 c96 l97 ∧ k73 ≤ r29.xfields.ls.length ∧ k76 ≤ p0.xReq + k73 ∧ k77 ≤ p0.xBoot + k73 ∧ k78 ≤ p0.xTxn + k73 ∧ k79 ≤ p0.xLow + k73 ∧ k80 ≤ p0.xVer + k73 ∧ k81 ≤ p0.xEpoch + k73 ∧ k82 ≤ p0.xMove + k73 ∧ k83 ≤ p0.xAttempt + k73 ∧ k84 ≤ p0.xN + k73 ∧ wire_Check_L0 p0 r29 r29.xfields.ls p0.xCode p0.xPeer p0.xReq p0.xBoot p0.xTxn p0.xLow p0.xVer p0.xEpoch p0.xMove p0.xAttempt p0.xN p0.xFlag p0.xRange.xLo p0.xRange.xHi p0.xOps.ls p0.xResults.ls p0.xOwners.ls = wire_Check_L0 p0 r29 (List.drop k73 r29.xfields.ls) z74 z75 k76 k77 k78 k79 k80 k81 k82 k83 k84 b85 s86 s87 l90 l93 l97 := by intros; subst hI104; exact Iff.rfl
 refine Wp.loop (fun i : Nat × Int × Int × Nat × Nat × Nat × Nat × Nat × Nat × Nat × Nat × Nat × Bool × (List UInt8) × (List UInt8) × (Option Addr) × Nat × (List OpD) × (Option Addr) × Nat × (List ResultD) × (List ResultT) × (Option Addr) × Nat × (List OwnerD) => [(9, .int .i64 ((i.1 : Nat) : Int)), (8, .int .i64 ((r29.xfields.ls.length : Nat) : Int)), (7, .slice A35 r29.xfields.ls.length c36), (4, .pointer (some ⟨g70, 0, none⟩)), (2, .pointer (some ⟨g67, 0, none⟩))]) I103 (fun i => r29.xfields.ls.length - i.1) (0, p0.xCode, p0.xPeer, p0.xReq, p0.xBoot, p0.xTxn, p0.xLow, p0.xVer, p0.xEpoch, p0.xMove, p0.xAttempt, p0.xN, p0.xFlag, p0.xRange.xLo, p0.xRange.xHi, A0x0, c0x0, p0.xOps.ls, A0x1, c0x1, d0x1, p0.xResults.ls, A0x2, c0x2, p0.xOwners.ls) ⟨rfl, rfl, rfl, rfl, rfl, trivial⟩ (dm105.2 ⟨H99, by exact (SubS.refl (by omega)), by exact (SubS.refl (by omega)), by exact hd0x1, by exact (SubS.refl (by omega)), by omega, by omega, by omega, by omega, by omega, by omega, by omega, by omega, by omega, by omega, rfl⟩) ?_
 rintro ⟨k73, z74, z75, k76, k77, k78, k79, k80, k81, k82, k83, k84, b85, s86, s87, A88, c89, l90, A91, c92, d94, l93, A95, c96, l97⟩ w100 hf102
 show Wp _ _ _ [(9, .int .i64 ((k73 : Nat) : Int)), (8, .int .i64 ((r29.xfields.ls.length : Nat) : Int)), (7, .slice A35 r29.xfields.ls.length c36), (4, .pointer (some ⟨g70, 0, none⟩)), (2, .pointer (some ⟨g67, 0, none⟩))] _ _
 obtain ⟨H101, hi107, hi108, hi109, hi110, hi111, hi112, hi113, hi114, hi115, hi116, hi117, hi118, hi119, hi120, hq106⟩ := dm105.1 hf102
 have hz121 := (hi107).le
 have hz122 := (hi108).le
 have hl123 := abs_len hi109
 have hz124 := (hi110).le
 refine sr (Kz (.bool (decide (((k73 : Nat) : Int) < ((r29.xfields.ls.length : Nat) : Int)))) (nt (Wp.seq ?_)))
 by_cases h125 : ((k73 : Nat) : Int) < ((r29.xfields.ls.length : Nat) : Int)
 obtain ⟨x126, hx127⟩ := rds_at (ls := r29.xfields.ls) (i := k73) eI_len (by decide) (H101.rds (i := 3) rfl) (by first | omega | (simp; done) | (simp; omega))
 have hd128 := drop_at hx127
 refine jT (dT h125) (sk (Wp.seq (bo (sr (fw (.pointer (some ⟨ab A35, ao A35 + k73 * 1, none⟩)) (Yl.indexAddr (El48) rfl rfl ((H101.rds (i := 3) rfl).addr (i := k73) (by omega)) (by omega)) (fw (.int .i64 x126) (Yl.load rfl (Lds.one Tryz.isAgg93 (((H101.rds (i := 3) rfl).elem eI_len hx127 (by decide)).at_ (k := 0) rfl))) (Ar rfl (Mn rfl (bo (sr (Kz (.bool (decide (x126 = 0))) (An rfl ?_))))))))))))
 by_cases h129 : x126 = 0
 refine jT (dT h129) (Wp.region (Kz (.pointer (some ⟨g67, 6, none⟩)) ?_))
 have H130 := H101.pk [1, 0, 2, 3, 4]
 refine sto [.int .u64 0] 6 H130 Tryz.sizeOf22 ?_
 intro w131 H132
 refine WL.nil (bN (bN (Fin.then (Wp.region (fw (.int .i64 ((k73 + 1 : Nat) : Int)) (Yl.int (e := IntKind.i64.wrap (((k73 : Nat) : Int) + 1)) yk (by rw [IntWalk.i64_in _ (by omega)]; omega)) (Mz rfl (WL.nil ?_)))))))
 have H133 := H132.pk [1, 0, 2, 3, 4]
 exact Fin.round (k73 + 1, z74, z75, 0, k77, k78, k79, k80, k81, k82, k83, k84, b85, s86, s87, A88, c89, l90, A91, c92, d94, l93, A95, c96, l97) ⟨rfl, rfl, rfl, rfl, rfl, trivial⟩ (dm105.2 ⟨H133, by exact hi107, by exact hi108, by exact hi109, by exact hi110, by omega, by omega, by omega, by omega, by omega, by omega, by omega, by omega, by omega, by omega, et (hq106) (et (congrArg (fun q => wire_Check_L0 p0 r29 q z74 z75 k76 k77 k78 k79 k80 k81 k82 k83 k84 b85 s86 s87 l90 l93 l97) hd128) (ip h129))⟩) (by show r29.xfields.ls.length - (k73 + 1) < r29.xfields.ls.length - k73; omega)
 refine jF (dF h129) (sr (Kz (.bool (decide (x126 = 1))) (An rfl ?_)))
 by_cases h134 : x126 = 1
 refine jT (dT h134) (Wp.region (Kz (.pointer (some ⟨g67, 7, none⟩)) ?_))
 have H135 := H101.pk [1, 0, 2, 3, 4]
 refine sto [.int .u64 0] 7 H135 Tryz.sizeOf22 ?_
 intro w136 H137
 refine WL.nil (bN (bN (Fin.then (Wp.region (fw (.int .i64 ((k73 + 1 : Nat) : Int)) (Yl.int (e := IntKind.i64.wrap (((k73 : Nat) : Int) + 1)) yk (by rw [IntWalk.i64_in _ (by omega)]; omega)) (Mz rfl (WL.nil ?_)))))))
 have H138 := H137.pk [1, 0, 2, 3, 4]
 exact Fin.round (k73 + 1, z74, z75, k76, 0, k78, k79, k80, k81, k82, k83, k84, b85, s86, s87, A88, c89, l90, A91, c92, d94, l93, A95, c96, l97) ⟨rfl, rfl, rfl, rfl, rfl, trivial⟩ (dm105.2 ⟨H138, by exact hi107, by exact hi108, by exact hi109, by exact hi110, by omega, by omega, by omega, by omega, by omega, by omega, by omega, by omega, by omega, by omega, et (hq106) (et (congrArg (fun q => wire_Check_L0 p0 r29 q z74 z75 k76 k77 k78 k79 k80 k81 k82 k83 k84 b85 s86 s87 l90 l93 l97) hd128) (et (iN h129) (ip h134)))⟩) (by show r29.xfields.ls.length - (k73 + 1) < r29.xfields.ls.length - k73; omega)
 refine jF (dF h134) (sr (Kz (.bool (decide (x126 = 2))) (An rfl ?_)))
 by_cases h139 : x126 = 2
 refine jT (dT h139) (Wp.region (Kz (.pointer (some ⟨g67, 4, none⟩)) ?_))
 have H140 := H101.pk [1, 0, 2, 3, 4]
 refine sto [.int .i64 0] 4 H140 Tryz.sizeOf3 ?_
 intro w141 H142
 refine WL.nil (bN (bN (Fin.then (Wp.region (fw (.int .i64 ((k73 + 1 : Nat) : Int)) (Yl.int (e := IntKind.i64.wrap (((k73 : Nat) : Int) + 1)) yk (by rw [IntWalk.i64_in _ (by omega)]; omega)) (Mz rfl (WL.nil ?_)))))))
 have H143 := H142.pk [1, 0, 2, 3, 4]
 exact Fin.round (k73 + 1, 0, z75, k76, k77, k78, k79, k80, k81, k82, k83, k84, b85, s86, s87, A88, c89, l90, A91, c92, d94, l93, A95, c96, l97) ⟨rfl, rfl, rfl, rfl, rfl, trivial⟩ (dm105.2 ⟨H143, by exact hi107, by exact hi108, by exact hi109, by exact hi110, by omega, by omega, by omega, by omega, by omega, by omega, by omega, by omega, by omega, by omega, et (hq106) (et (congrArg (fun q => wire_Check_L0 p0 r29 q z74 z75 k76 k77 k78 k79 k80 k81 k82 k83 k84 b85 s86 s87 l90 l93 l97) hd128) (et (iN h129) (et (iN h134) (ip h139))))⟩) (by show r29.xfields.ls.length - (k73 + 1) < r29.xfields.ls.length - k73; omega)
 refine jF (dF h139) (sr (Kz (.bool (decide (x126 = 3))) (An rfl ?_)))
 by_cases h144 : x126 = 3
 refine jT (dT h144) (Wp.region (Kz (.pointer (some ⟨g67, 19, none⟩)) ?_))
 have H145 := H101.pk [1, 0, 2, 3, 4]
 refine sto [.slice none 0 0] 19 H145 Tryz.sizeOf26 ?_
 intro w146 H147
 refine WL.nil (bN (bN (Fin.then (Wp.region (fw (.int .i64 ((k73 + 1 : Nat) : Int)) (Yl.int (e := IntKind.i64.wrap (((k73 : Nat) : Int) + 1)) yk (by rw [IntWalk.i64_in _ (by omega)]; omega)) (Mz rfl (WL.nil ?_)))))))
 have H148 := H147.pk [1, 0, 2, 3, 4]
 exact Fin.round (k73 + 1, z74, z75, k76, k77, k78, k79, k80, k81, k82, k83, k84, b85, s86, s87, A88, c89, l90, none, 0, [], [], A95, c96, l97) ⟨rfl, rfl, rfl, rfl, rfl, trivial⟩ (dm105.2 ⟨H148, (show SubS 6 A0x0 c0x0 p0.xOps.ls A88 c89 l90 ∧ SubS 3 A0x1 c0x1 d0x1 none 0 ([]) ∧ List.map ResultD.abs ([]) = ([]) ∧ SubS 2 A0x2 c0x2 p0.xOwners.ls A95 c96 l97 ∧ (k73 + 1) ≤ r29.xfields.ls.length ∧ k76 ≤ p0.xReq + (k73 + 1) ∧ k77 ≤ p0.xBoot + (k73 + 1) ∧ k78 ≤ p0.xTxn + (k73 + 1) ∧ k79 ≤ p0.xLow + (k73 + 1) ∧ k80 ≤ p0.xVer + (k73 + 1) ∧ k81 ≤ p0.xEpoch + (k73 + 1) ∧ k82 ≤ p0.xMove + (k73 + 1) ∧ k83 ≤ p0.xAttempt + (k73 + 1) ∧ k84 ≤ p0.xN + (k73 + 1) ∧ wire_Check_L0 p0 r29 r29.xfields.ls p0.xCode p0.xPeer p0.xReq p0.xBoot p0.xTxn p0.xLow p0.xVer p0.xEpoch p0.xMove p0.xAttempt p0.xN p0.xFlag p0.xRange.xLo p0.xRange.xHi p0.xOps.ls p0.xResults.ls p0.xOwners.ls = wire_Check_L0 p0 r29 (List.drop (k73 + 1) r29.xfields.ls) z74 z75 k76 k77 k78 k79 k80 k81 k82 k83 k84 b85 s86 s87 l90 ([]) l97 from ⟨by exact hi107, by exact SubS.nil, by exact rfl, by exact hi110, by omega, by omega, by omega, by omega, by omega, by omega, by omega, by omega, by omega, by omega, et (hq106) (et (congrArg (fun q => wire_Check_L0 p0 r29 q z74 z75 k76 k77 k78 k79 k80 k81 k82 k83 k84 b85 s86 s87 l90 l93 l97) hd128) (et (iN h129) (et (iN h134) (et (iN h139) (ip h144)))))⟩)⟩) (by show r29.xfields.ls.length - (k73 + 1) < r29.xfields.ls.length - k73; omega)
 refine jF (dF h144) (sr (Kz (.bool (decide (x126 = 4))) (An rfl ?_)))
 by_cases h149 : x126 = 4
 refine jT (dT h149) (Wp.region (Kz (.pointer (some ⟨g67, 8, none⟩)) ?_))
 have H150 := H101.pk [1, 0, 2, 3, 4]
 refine sto [.int .u64 0] 8 H150 Tryz.sizeOf22 ?_
 intro w151 H152
 refine WL.nil (bN (bN (Fin.then (Wp.region (fw (.int .i64 ((k73 + 1 : Nat) : Int)) (Yl.int (e := IntKind.i64.wrap (((k73 : Nat) : Int) + 1)) yk (by rw [IntWalk.i64_in _ (by omega)]; omega)) (Mz rfl (WL.nil ?_)))))))
 have H153 := H152.pk [1, 0, 2, 3, 4]
 exact Fin.round (k73 + 1, z74, z75, k76, k77, 0, k79, k80, k81, k82, k83, k84, b85, s86, s87, A88, c89, l90, A91, c92, d94, l93, A95, c96, l97) ⟨rfl, rfl, rfl, rfl, rfl, trivial⟩ (dm105.2 ⟨H153, by exact hi107, by exact hi108, by exact hi109, by exact hi110, by omega, by omega, by omega, by omega, by omega, by omega, by omega, by omega, by omega, by omega, et (hq106) (et (congrArg (fun q => wire_Check_L0 p0 r29 q z74 z75 k76 k77 k78 k79 k80 k81 k82 k83 k84 b85 s86 s87 l90 l93 l97) hd128) (et (iN h129) (et (iN h134) (et (iN h139) (et (iN h144) (ip h149))))))⟩) (by show r29.xfields.ls.length - (k73 + 1) < r29.xfields.ls.length - k73; omega)
 refine jF (dF h149) (sr (Kz (.bool (decide (x126 = 5))) (An rfl ?_)))
 by_cases h154 : x126 = 5
 refine jT (dT h154) (Wp.region (Kz (.pointer (some ⟨g67, 9, none⟩)) ?_))
 have H155 := H101.pk [1, 0, 2, 3, 4]
 refine sto [.int .u64 0] 9 H155 Tryz.sizeOf22 ?_
 intro w156 H157
 refine WL.nil (bN (bN (Fin.then (Wp.region (fw (.int .i64 ((k73 + 1 : Nat) : Int)) (Yl.int (e := IntKind.i64.wrap (((k73 : Nat) : Int) + 1)) yk (by rw [IntWalk.i64_in _ (by omega)]; omega)) (Mz rfl (WL.nil ?_)))))))
 have H158 := H157.pk [1, 0, 2, 3, 4]
 exact Fin.round (k73 + 1, z74, z75, k76, k77, k78, 0, k80, k81, k82, k83, k84, b85, s86, s87, A88, c89, l90, A91, c92, d94, l93, A95, c96, l97) ⟨rfl, rfl, rfl, rfl, rfl, trivial⟩ (dm105.2 ⟨H158, by exact hi107, by exact hi108, by exact hi109, by exact hi110, by omega, by omega, by omega, by omega, by omega, by omega, by omega, by omega, by omega, by omega, et (hq106) (et (congrArg (fun q => wire_Check_L0 p0 r29 q z74 z75 k76 k77 k78 k79 k80 k81 k82 k83 k84 b85 s86 s87 l90 l93 l97) hd128) (et (iN h129) (et (iN h134) (et (iN h139) (et (iN h144) (et (iN h149) (ip h154)))))))⟩) (by show r29.xfields.ls.length - (k73 + 1) < r29.xfields.ls.length - k73; omega)
 refine jF (dF h154) (sr (Kz (.bool (decide (x126 = 6))) (An rfl ?_)))
 by_cases h159 : x126 = 6
 refine jT (dT h159) (Wp.region (Kz (.pointer (some ⟨g67, 11, none⟩)) ?_))
 have H160 := H101.pk [1, 0, 2, 3, 4]
 refine sto [.int .u64 0] 11 H160 Tryz.sizeOf22 ?_
 intro w161 H162
 refine WL.nil (bN (bN (Fin.then (Wp.region (fw (.int .i64 ((k73 + 1 : Nat) : Int)) (Yl.int (e := IntKind.i64.wrap (((k73 : Nat) : Int) + 1)) yk (by rw [IntWalk.i64_in _ (by omega)]; omega)) (Mz rfl (WL.nil ?_)))))))
 have H163 := H162.pk [1, 0, 2, 3, 4]
 exact Fin.round (k73 + 1, z74, z75, k76, k77, k78, k79, k80, 0, k82, k83, k84, b85, s86, s87, A88, c89, l90, A91, c92, d94, l93, A95, c96, l97) ⟨rfl, rfl, rfl, rfl, rfl, trivial⟩ (dm105.2 ⟨H163, by exact hi107, by exact hi108, by exact hi109, by exact hi110, by omega, by omega, by omega, by omega, by omega, by omega, by omega, by omega, by omega, by omega, et (hq106) (et (congrArg (fun q => wire_Check_L0 p0 r29 q z74 z75 k76 k77 k78 k79 k80 k81 k82 k83 k84 b85 s86 s87 l90 l93 l97) hd128) (et (iN h129) (et (iN h134) (et (iN h139) (et (iN h144) (et (iN h149) (et (iN h154) (ip h159))))))))⟩) (by show r29.xfields.ls.length - (k73 + 1) < r29.xfields.ls.length - k73; omega)
 refine jF (dF h159) (sr (Kz (.bool (decide (x126 = 7))) (An rfl ?_)))
 by_cases h164 : x126 = 7
 refine jT (dT h164) (Wp.region (Kz (.pointer (some ⟨g67, 18, none⟩)) ?_))
 have H165 := H101.pk [1, 0, 2, 3, 4]
 refine sto [.slice none 0 0] 18 H165 Tryz.sizeOf25 ?_
 intro w166 H167
 refine WL.nil (bN (bN (Fin.then (Wp.region (fw (.int .i64 ((k73 + 1 : Nat) : Int)) (Yl.int (e := IntKind.i64.wrap (((k73 : Nat) : Int) + 1)) yk (by rw [IntWalk.i64_in _ (by omega)]; omega)) (Mz rfl (WL.nil ?_)))))))
 have H168 := H167.pk [1, 0, 2, 3, 4]
 exact Fin.round (k73 + 1, z74, z75, k76, k77, k78, k79, k80, k81, k82, k83, k84, b85, s86, s87, none, 0, [], A91, c92, d94, l93, A95, c96, l97) ⟨rfl, rfl, rfl, rfl, rfl, trivial⟩ (dm105.2 ⟨H168, (show SubS 6 A0x0 c0x0 p0.xOps.ls none 0 ([]) ∧ SubS 3 A0x1 c0x1 d0x1 A91 c92 d94 ∧ List.map ResultD.abs d94 = l93 ∧ SubS 2 A0x2 c0x2 p0.xOwners.ls A95 c96 l97 ∧ (k73 + 1) ≤ r29.xfields.ls.length ∧ k76 ≤ p0.xReq + (k73 + 1) ∧ k77 ≤ p0.xBoot + (k73 + 1) ∧ k78 ≤ p0.xTxn + (k73 + 1) ∧ k79 ≤ p0.xLow + (k73 + 1) ∧ k80 ≤ p0.xVer + (k73 + 1) ∧ k81 ≤ p0.xEpoch + (k73 + 1) ∧ k82 ≤ p0.xMove + (k73 + 1) ∧ k83 ≤ p0.xAttempt + (k73 + 1) ∧ k84 ≤ p0.xN + (k73 + 1) ∧ wire_Check_L0 p0 r29 r29.xfields.ls p0.xCode p0.xPeer p0.xReq p0.xBoot p0.xTxn p0.xLow p0.xVer p0.xEpoch p0.xMove p0.xAttempt p0.xN p0.xFlag p0.xRange.xLo p0.xRange.xHi p0.xOps.ls p0.xResults.ls p0.xOwners.ls = wire_Check_L0 p0 r29 (List.drop (k73 + 1) r29.xfields.ls) z74 z75 k76 k77 k78 k79 k80 k81 k82 k83 k84 b85 s86 s87 ([]) l93 l97 from ⟨by exact SubS.nil, by exact hi108, by exact hi109, by exact hi110, by omega, by omega, by omega, by omega, by omega, by omega, by omega, by omega, by omega, by omega, et (hq106) (et (congrArg (fun q => wire_Check_L0 p0 r29 q z74 z75 k76 k77 k78 k79 k80 k81 k82 k83 k84 b85 s86 s87 l90 l93 l97) hd128) (et (iN h129) (et (iN h134) (et (iN h139) (et (iN h144) (et (iN h149) (et (iN h154) (et (iN h159) (ip h164)))))))))⟩)⟩) (by show r29.xfields.ls.length - (k73 + 1) < r29.xfields.ls.length - k73; omega)
 refine jF (dF h164) (sr (Kz (.bool (decide (x126 = 8))) (An rfl ?_)))
 by_cases h169 : x126 = 8
 refine jT (dT h169) (Wp.region (Kz (.pointer (some ⟨g67, 15, none⟩)) ?_))
 have H170 := H101.pk [1, 0, 2, 3, 4]
 refine sto [.bool false] 15 H170 Tryz.sizeOf4 ?_
 intro w171 H172
 refine WL.nil (bN (bN (Fin.then (Wp.region (fw (.int .i64 ((k73 + 1 : Nat) : Int)) (Yl.int (e := IntKind.i64.wrap (((k73 : Nat) : Int) + 1)) yk (by rw [IntWalk.i64_in _ (by omega)]; omega)) (Mz rfl (WL.nil ?_)))))))
 have H173 := H172.pk [1, 0, 2, 3, 4]
 exact Fin.round (k73 + 1, z74, z75, k76, k77, k78, k79, k80, k81, k82, k83, k84, false, s86, s87, A88, c89, l90, A91, c92, d94, l93, A95, c96, l97) ⟨rfl, rfl, rfl, rfl, rfl, trivial⟩ (dm105.2 ⟨H173, (show SubS 6 A0x0 c0x0 p0.xOps.ls A88 c89 l90 ∧ SubS 3 A0x1 c0x1 d0x1 A91 c92 d94 ∧ List.map ResultD.abs d94 = l93 ∧ SubS 2 A0x2 c0x2 p0.xOwners.ls A95 c96 l97 ∧ (k73 + 1) ≤ r29.xfields.ls.length ∧ k76 ≤ p0.xReq + (k73 + 1) ∧ k77 ≤ p0.xBoot + (k73 + 1) ∧ k78 ≤ p0.xTxn + (k73 + 1) ∧ k79 ≤ p0.xLow + (k73 + 1) ∧ k80 ≤ p0.xVer + (k73 + 1) ∧ k81 ≤ p0.xEpoch + (k73 + 1) ∧ k82 ≤ p0.xMove + (k73 + 1) ∧ k83 ≤ p0.xAttempt + (k73 + 1) ∧ k84 ≤ p0.xN + (k73 + 1) ∧ wire_Check_L0 p0 r29 r29.xfields.ls p0.xCode p0.xPeer p0.xReq p0.xBoot p0.xTxn p0.xLow p0.xVer p0.xEpoch p0.xMove p0.xAttempt p0.xN p0.xFlag p0.xRange.xLo p0.xRange.xHi p0.xOps.ls p0.xResults.ls p0.xOwners.ls = wire_Check_L0 p0 r29 (List.drop (k73 + 1) r29.xfields.ls) z74 z75 k76 k77 k78 k79 k80 k81 k82 k83 k84 false s86 s87 l90 l93 l97 from ⟨by exact hi107, by exact hi108, by exact hi109, by exact hi110, by omega, by omega, by omega, by omega, by omega, by omega, by omega, by omega, by omega, by omega, et (hq106) (et (congrArg (fun q => wire_Check_L0 p0 r29 q z74 z75 k76 k77 k78 k79 k80 k81 k82 k83 k84 b85 s86 s87 l90 l93 l97) hd128) (et (iN h129) (et (iN h134) (et (iN h139) (et (iN h144) (et (iN h149) (et (iN h154) (et (iN h159) (et (iN h164) (ip h169))))))))))⟩)⟩) (by show r29.xfields.ls.length - (k73 + 1) < r29.xfields.ls.length - k73; omega)
 refine jF (dF h169) (sr (Kz (.bool (decide (x126 = 9))) (An rfl ?_)))
 by_cases h174 : x126 = 9
 refine jT (dT h174) (Wp.region (Kz (.pointer (some ⟨g67, 10, none⟩)) ?_))
 have H175 := H101.pk [1, 0, 2, 3, 4]
 refine sto [.int .u64 0] 10 H175 Tryz.sizeOf22 ?_
 intro w176 H177
 refine WL.nil (bN (bN (Fin.then (Wp.region (fw (.int .i64 ((k73 + 1 : Nat) : Int)) (Yl.int (e := IntKind.i64.wrap (((k73 : Nat) : Int) + 1)) yk (by rw [IntWalk.i64_in _ (by omega)]; omega)) (Mz rfl (WL.nil ?_)))))))
 have H178 := H177.pk [1, 0, 2, 3, 4]
 exact Fin.round (k73 + 1, z74, z75, k76, k77, k78, k79, 0, k81, k82, k83, k84, b85, s86, s87, A88, c89, l90, A91, c92, d94, l93, A95, c96, l97) ⟨rfl, rfl, rfl, rfl, rfl, trivial⟩ (dm105.2 ⟨H178, by exact hi107, by exact hi108, by exact hi109, by exact hi110, by omega, by omega, by omega, by omega, by omega, by omega, by omega, by omega, by omega, by omega, et (hq106) (et (congrArg (fun q => wire_Check_L0 p0 r29 q z74 z75 k76 k77 k78 k79 k80 k81 k82 k83 k84 b85 s86 s87 l90 l93 l97) hd128) (et (iN h129) (et (iN h134) (et (iN h139) (et (iN h144) (et (iN h149) (et (iN h154) (et (iN h159) (et (iN h164) (et (iN h169) (ip h174)))))))))))⟩) (by show r29.xfields.ls.length - (k73 + 1) < r29.xfields.ls.length - k73; omega)
 refine jF (dF h174) (sr (Kz (.bool (decide (x126 = 10))) (An rfl ?_)))
 by_cases h179 : x126 = 10
 refine jT (dT h179) (Wp.region (Kz (.pointer (some ⟨g67, 12, none⟩)) ?_))
 have H180 := H101.pk [1, 0, 2, 3, 4]
 refine sto [.int .u64 0] 12 H180 Tryz.sizeOf22 ?_
 intro w181 H182
 refine WL.nil (bN (bN (Fin.then (Wp.region (fw (.int .i64 ((k73 + 1 : Nat) : Int)) (Yl.int (e := IntKind.i64.wrap (((k73 : Nat) : Int) + 1)) yk (by rw [IntWalk.i64_in _ (by omega)]; omega)) (Mz rfl (WL.nil ?_)))))))
 have H183 := H182.pk [1, 0, 2, 3, 4]
 exact Fin.round (k73 + 1, z74, z75, k76, k77, k78, k79, k80, k81, 0, k83, k84, b85, s86, s87, A88, c89, l90, A91, c92, d94, l93, A95, c96, l97) ⟨rfl, rfl, rfl, rfl, rfl, trivial⟩ (dm105.2 ⟨H183, by exact hi107, by exact hi108, by exact hi109, by exact hi110, by omega, by omega, by omega, by omega, by omega, by omega, by omega, by omega, by omega, by omega, et (hq106) (et (congrArg (fun q => wire_Check_L0 p0 r29 q z74 z75 k76 k77 k78 k79 k80 k81 k82 k83 k84 b85 s86 s87 l90 l93 l97) hd128) (et (iN h129) (et (iN h134) (et (iN h139) (et (iN h144) (et (iN h149) (et (iN h154) (et (iN h159) (et (iN h164) (et (iN h169) (et (iN h174) (ip h179))))))))))))⟩) (by show r29.xfields.ls.length - (k73 + 1) < r29.xfields.ls.length - k73; omega)
 refine jF (dF h179) (sr (Kz (.bool (decide (x126 = 11))) (An rfl ?_)))
 by_cases h184 : x126 = 11
 refine jT (dT h184) (Wp.region (Kz (.pointer (some ⟨g67, 20, none⟩)) ?_))
 have H185 := H101.pk [1, 0, 2, 3, 4]
 refine sto [.slice none 0 0] 20 H185 Tryz.sizeOf27 ?_
 intro w186 H187
 refine WL.nil (bN (bN (Fin.then (Wp.region (fw (.int .i64 ((k73 + 1 : Nat) : Int)) (Yl.int (e := IntKind.i64.wrap (((k73 : Nat) : Int) + 1)) yk (by rw [IntWalk.i64_in _ (by omega)]; omega)) (Mz rfl (WL.nil ?_)))))))
 have H188 := H187.pk [1, 0, 2, 3, 4]
 exact Fin.round (k73 + 1, z74, z75, k76, k77, k78, k79, k80, k81, k82, k83, k84, b85, s86, s87, A88, c89, l90, A91, c92, d94, l93, none, 0, []) ⟨rfl, rfl, rfl, rfl, rfl, trivial⟩ (dm105.2 ⟨H188, (show SubS 6 A0x0 c0x0 p0.xOps.ls A88 c89 l90 ∧ SubS 3 A0x1 c0x1 d0x1 A91 c92 d94 ∧ List.map ResultD.abs d94 = l93 ∧ SubS 2 A0x2 c0x2 p0.xOwners.ls none 0 ([]) ∧ (k73 + 1) ≤ r29.xfields.ls.length ∧ k76 ≤ p0.xReq + (k73 + 1) ∧ k77 ≤ p0.xBoot + (k73 + 1) ∧ k78 ≤ p0.xTxn + (k73 + 1) ∧ k79 ≤ p0.xLow + (k73 + 1) ∧ k80 ≤ p0.xVer + (k73 + 1) ∧ k81 ≤ p0.xEpoch + (k73 + 1) ∧ k82 ≤ p0.xMove + (k73 + 1) ∧ k83 ≤ p0.xAttempt + (k73 + 1) ∧ k84 ≤ p0.xN + (k73 + 1) ∧ wire_Check_L0 p0 r29 r29.xfields.ls p0.xCode p0.xPeer p0.xReq p0.xBoot p0.xTxn p0.xLow p0.xVer p0.xEpoch p0.xMove p0.xAttempt p0.xN p0.xFlag p0.xRange.xLo p0.xRange.xHi p0.xOps.ls p0.xResults.ls p0.xOwners.ls = wire_Check_L0 p0 r29 (List.drop (k73 + 1) r29.xfields.ls) z74 z75 k76 k77 k78 k79 k80 k81 k82 k83 k84 b85 s86 s87 l90 l93 ([]) from ⟨by exact hi107, by exact hi108, by exact hi109, by exact SubS.nil, by omega, by omega, by omega, by omega, by omega, by omega, by omega, by omega, by omega, by omega, et (hq106) (et (congrArg (fun q => wire_Check_L0 p0 r29 q z74 z75 k76 k77 k78 k79 k80 k81 k82 k83 k84 b85 s86 s87 l90 l93 l97) hd128) (et (iN h129) (et (iN h134) (et (iN h139) (et (iN h144) (et (iN h149) (et (iN h154) (et (iN h159) (et (iN h164) (et (iN h169) (et (iN h174) (et (iN h179) (ip h184)))))))))))))⟩)⟩) (by show r29.xfields.ls.length - (k73 + 1) < r29.xfields.ls.length - k73; omega)
 refine jF (dF h184) (sr (Kz (.bool (decide (x126 = 12))) (An rfl ?_)))
 by_cases h189 : x126 = 12
 refine jT (dT h189) (Wp.region (Kz (.pointer (some ⟨g67, 5, none⟩)) ?_))
 have H190 := H101.pk [1, 0, 2, 3, 4]
 refine sto [.int .i64 0] 5 H190 Tryz.sizeOf3 ?_
 intro w191 H192
 refine WL.nil (bN (bN (Fin.then (Wp.region (fw (.int .i64 ((k73 + 1 : Nat) : Int)) (Yl.int (e := IntKind.i64.wrap (((k73 : Nat) : Int) + 1)) yk (by rw [IntWalk.i64_in _ (by omega)]; omega)) (Mz rfl (WL.nil ?_)))))))
 have H193 := H192.pk [1, 0, 2, 3, 4]
 exact Fin.round (k73 + 1, z74, 0, k76, k77, k78, k79, k80, k81, k82, k83, k84, b85, s86, s87, A88, c89, l90, A91, c92, d94, l93, A95, c96, l97) ⟨rfl, rfl, rfl, rfl, rfl, trivial⟩ (dm105.2 ⟨H193, by exact hi107, by exact hi108, by exact hi109, by exact hi110, by omega, by omega, by omega, by omega, by omega, by omega, by omega, by omega, by omega, by omega, et (hq106) (et (congrArg (fun q => wire_Check_L0 p0 r29 q z74 z75 k76 k77 k78 k79 k80 k81 k82 k83 k84 b85 s86 s87 l90 l93 l97) hd128) (et (iN h129) (et (iN h134) (et (iN h139) (et (iN h144) (et (iN h149) (et (iN h154) (et (iN h159) (et (iN h164) (et (iN h169) (et (iN h174) (et (iN h179) (et (iN h184) (ip h189))))))))))))))⟩) (by show r29.xfields.ls.length - (k73 + 1) < r29.xfields.ls.length - k73; omega)
 refine jF (dF h189) (sr (Kz (.bool (decide (x126 = 13))) (An rfl ?_)))
 by_cases h194 : x126 = 13
 refine jT (dT h194) (Wp.region (Kz (.agg #[.string ⟨List.toArray ([])⟩, .string ⟨List.toArray ([])⟩]) (Kz (.pointer (some ⟨g67, 16, none⟩)) ?_)))
 have H195 := H101.pk [1, 0, 2, 3, 4]
 refine sto [.string ⟨List.toArray ([])⟩, .string ⟨List.toArray ([])⟩] 16 H195 Tryz.sizeOf24 ?_
 intro w196 H197
 refine WL.nil (bN (bN (Fin.then (Wp.region (fw (.int .i64 ((k73 + 1 : Nat) : Int)) (Yl.int (e := IntKind.i64.wrap (((k73 : Nat) : Int) + 1)) yk (by rw [IntWalk.i64_in _ (by omega)]; omega)) (Mz rfl (WL.nil ?_)))))))
 have H198 := H197.pk [1, 0, 2, 3, 4]
 exact Fin.round (k73 + 1, z74, z75, k76, k77, k78, k79, k80, k81, k82, k83, k84, b85, [], [], A88, c89, l90, A91, c92, d94, l93, A95, c96, l97) ⟨rfl, rfl, rfl, rfl, rfl, trivial⟩ (dm105.2 ⟨H198, (show SubS 6 A0x0 c0x0 p0.xOps.ls A88 c89 l90 ∧ SubS 3 A0x1 c0x1 d0x1 A91 c92 d94 ∧ List.map ResultD.abs d94 = l93 ∧ SubS 2 A0x2 c0x2 p0.xOwners.ls A95 c96 l97 ∧ (k73 + 1) ≤ r29.xfields.ls.length ∧ k76 ≤ p0.xReq + (k73 + 1) ∧ k77 ≤ p0.xBoot + (k73 + 1) ∧ k78 ≤ p0.xTxn + (k73 + 1) ∧ k79 ≤ p0.xLow + (k73 + 1) ∧ k80 ≤ p0.xVer + (k73 + 1) ∧ k81 ≤ p0.xEpoch + (k73 + 1) ∧ k82 ≤ p0.xMove + (k73 + 1) ∧ k83 ≤ p0.xAttempt + (k73 + 1) ∧ k84 ≤ p0.xN + (k73 + 1) ∧ wire_Check_L0 p0 r29 r29.xfields.ls p0.xCode p0.xPeer p0.xReq p0.xBoot p0.xTxn p0.xLow p0.xVer p0.xEpoch p0.xMove p0.xAttempt p0.xN p0.xFlag p0.xRange.xLo p0.xRange.xHi p0.xOps.ls p0.xResults.ls p0.xOwners.ls = wire_Check_L0 p0 r29 (List.drop (k73 + 1) r29.xfields.ls) z74 z75 k76 k77 k78 k79 k80 k81 k82 k83 k84 b85 ([]) ([]) l90 l93 l97 from ⟨by exact hi107, by exact hi108, by exact hi109, by exact hi110, by omega, by omega, by omega, by omega, by omega, by omega, by omega, by omega, by omega, by omega, et (hq106) (et (congrArg (fun q => wire_Check_L0 p0 r29 q z74 z75 k76 k77 k78 k79 k80 k81 k82 k83 k84 b85 s86 s87 l90 l93 l97) hd128) (et (iN h129) (et (iN h134) (et (iN h139) (et (iN h144) (et (iN h149) (et (iN h154) (et (iN h159) (et (iN h164) (et (iN h169) (et (iN h174) (et (iN h179) (et (iN h184) (et (iN h189) (ip h194)))))))))))))))⟩)⟩) (by show r29.xfields.ls.length - (k73 + 1) < r29.xfields.ls.length - k73; omega)
 refine jF (dF h194) (sr (Kz (.bool (decide (x126 = 14))) (An rfl ?_)))
 by_cases h199 : x126 = 14
 refine jT (dT h199) (Wp.region (Kz (.pointer (some ⟨g67, 13, none⟩)) ?_))
 have H200 := H101.pk [1, 0, 2, 3, 4]
 refine sto [.int .u64 0] 13 H200 Tryz.sizeOf22 ?_
 intro w201 H202
 refine WL.nil (bN (bN (Fin.then (Wp.region (fw (.int .i64 ((k73 + 1 : Nat) : Int)) (Yl.int (e := IntKind.i64.wrap (((k73 : Nat) : Int) + 1)) yk (by rw [IntWalk.i64_in _ (by omega)]; omega)) (Mz rfl (WL.nil ?_)))))))
 have H203 := H202.pk [1, 0, 2, 3, 4]
 exact Fin.round (k73 + 1, z74, z75, k76, k77, k78, k79, k80, k81, k82, 0, k84, b85, s86, s87, A88, c89, l90, A91, c92, d94, l93, A95, c96, l97) ⟨rfl, rfl, rfl, rfl, rfl, trivial⟩ (dm105.2 ⟨H203, by exact hi107, by exact hi108, by exact hi109, by exact hi110, by omega, by omega, by omega, by omega, by omega, by omega, by omega, by omega, by omega, by omega, et (hq106) (et (congrArg (fun q => wire_Check_L0 p0 r29 q z74 z75 k76 k77 k78 k79 k80 k81 k82 k83 k84 b85 s86 s87 l90 l93 l97) hd128) (et (iN h129) (et (iN h134) (et (iN h139) (et (iN h144) (et (iN h149) (et (iN h154) (et (iN h159) (et (iN h164) (et (iN h169) (et (iN h174) (et (iN h179) (et (iN h184) (et (iN h189) (et (iN h194) (ip h199))))))))))))))))⟩) (by show r29.xfields.ls.length - (k73 + 1) < r29.xfields.ls.length - k73; omega)
 refine jF (dF h199) (sr (Kz (.bool (decide (x126 = 15))) (An rfl ?_)))
 by_cases h204 : x126 = 15
 refine jT (dT h204) (Wp.region (Kz (.pointer (some ⟨g67, 14, none⟩)) ?_))
 have H205 := H101.pk [1, 0, 2, 3, 4]
 refine sto [.int .u64 0] 14 H205 Tryz.sizeOf22 ?_
 intro w206 H207
 refine WL.nil (bN (bN (Fin.then (Wp.region (fw (.int .i64 ((k73 + 1 : Nat) : Int)) (Yl.int (e := IntKind.i64.wrap (((k73 : Nat) : Int) + 1)) yk (by rw [IntWalk.i64_in _ (by omega)]; omega)) (Mz rfl (WL.nil ?_)))))))
 have H208 := H207.pk [1, 0, 2, 3, 4]
 exact Fin.round (k73 + 1, z74, z75, k76, k77, k78, k79, k80, k81, k82, k83, 0, b85, s86, s87, A88, c89, l90, A91, c92, d94, l93, A95, c96, l97) ⟨rfl, rfl, rfl, rfl, rfl, trivial⟩ (dm105.2 ⟨H208, by exact hi107, by exact hi108, by exact hi109, by exact hi110, by omega, by omega, by omega, by omega, by omega, by omega, by omega, by omega, by omega, by omega, et (hq106) (et (congrArg (fun q => wire_Check_L0 p0 r29 q z74 z75 k76 k77 k78 k79 k80 k81 k82 k83 k84 b85 s86 s87 l90 l93 l97) hd128) (et (iN h129) (et (iN h134) (et (iN h139) (et (iN h144) (et (iN h149) (et (iN h154) (et (iN h159) (et (iN h164) (et (iN h169) (et (iN h174) (et (iN h179) (et (iN h184) (et (iN h189) (et (iN h194) (et (iN h199) (ip h204)))))))))))))))))⟩) (by show r29.xfields.ls.length - (k73 + 1) < r29.xfields.ls.length - k73; omega)
 refine jF (dF h204) (Wp.skip (bN (bN (Fin.then (Wp.region (fw (.int .i64 ((k73 + 1 : Nat) : Int)) (Yl.int (e := IntKind.i64.wrap (((k73 : Nat) : Int) + 1)) yk (by rw [IntWalk.i64_in _ (by omega)]; omega)) (Mz rfl (WL.nil ?_))))))))
 have H209 := H101.pk [0, 1, 2, 3, 4]
 exact Fin.round (k73 + 1, z74, z75, k76, k77, k78, k79, k80, k81, k82, k83, k84, b85, s86, s87, A88, c89, l90, A91, c92, d94, l93, A95, c96, l97) ⟨rfl, rfl, rfl, rfl, rfl, trivial⟩ (dm105.2 ⟨H209, by exact hi107, by exact hi108, by exact hi109, by exact hi110, by omega, by omega, by omega, by omega, by omega, by omega, by omega, by omega, by omega, by omega, et (hq106) (et (congrArg (fun q => wire_Check_L0 p0 r29 q z74 z75 k76 k77 k78 k79 k80 k81 k82 k83 k84 b85 s86 s87 l90 l93 l97) hd128) (et (iN h129) (et (iN h134) (et (iN h139) (et (iN h144) (et (iN h149) (et (iN h154) (et (iN h159) (et (iN h164) (et (iN h169) (et (iN h174) (et (iN h179) (et (iN h184) (et (iN h189) (et (iN h194) (et (iN h199) (iN h204)))))))))))))))))⟩) (by show r29.xfields.ls.length - (k73 + 1) < r29.xfields.ls.length - k73; omega)
 refine jF (dF h125) (Wp.exit (Fin.thenX ?_))
 have hL210 : wire_Check_L0 p0 r29 r29.xfields.ls p0.xCode p0.xPeer p0.xReq p0.xBoot p0.xTxn p0.xLow p0.xVer p0.xEpoch p0.xMove p0.xAttempt p0.xN p0.xFlag p0.xRange.xLo p0.xRange.xHi p0.xOps.ls p0.xResults.ls p0.xOwners.ls = (z74, z75, k76, k77, k78, k79, k80, k81, k82, k83, k84, b85, s86, s87, l90, l93, l97) := et (hq106) (et (congrArg (fun q => wire_Check_L0 p0 r29 q z74 z75 k76 k77 k78 k79 k80 k81 k82 k83 k84 b85 s86 s87 l90 l93 l97) (drop_end (ls := r29.xfields.ls) (i := k73) (by omega))) rfl)
 refine Fin.thenX (Fin.blockX (Fin.then (sr (La (MsgC p0.xKind p0.xFrom p0.xTo p0.xClient z74 z75 k76 k77 k78 k79 k80 k81 k82 k83 k84 b85 s86 s87 A88 l90.length c89 A91 l93.length c92 A95 l97.length c96) H101 1 Tryz.isAgg29 Tryz.sizeOf29 ?_))))
 refine sto (MsgC p0.xKind p0.xFrom p0.xTo p0.xClient z74 z75 k76 k77 k78 k79 k80 k81 k82 k83 k84 b85 s86 s87 A88 l90.length c89 A91 l93.length c92 A95 l97.length c96) 0 H101 Tryz.sizeOf29 ?_
 intro w211 H212
 refine nt (rt (Fin.res (resC rfl rfl (Lds.agg (cs := (MsgC p0.xKind p0.xFrom p0.xTo p0.xClient z74 z75 k76 k77 k78 k79 k80 k81 k82 k83 k84 b85 s86 s87 A88 l90.length c89 A91 l93.length c92 A95 l97.length c96)) Tryz.isAgg29 Tryz.sizeOf29 ((H212.cls (i := 0) rfl).lit (k := 0) (m := 21) rfl))) ?_))
 obtain ⟨r218, hr219⟩ : ∃ q, wire_blank (MsgT.mk p0.xKind p0.xFrom p0.xTo p0.xClient z74 z75 k76 k77 k78 k79 k80 k81 k82 k83 k84 b85 (RangeD.mk s86 s87) (Ll.mk l90) (Ll.mk l93) (Ll.mk l97)) = q := ⟨_, rfl⟩
 obtain ⟨D213, HP214, ro215, bk216, rr217⟩ := Own.enter0 H212
 refine clG (cn h66) Tryz.call24 (wire_blank_ok _ _ (MsgT.mk p0.xKind p0.xFrom p0.xTo p0.xClient z74 z75 k76 k77 k78 k79 k80 k81 k82 k83 k84 b85 (RangeD.mk s86 s87) (Ll.mk l90) (Ll.mk l93) (Ll.mk l97)) A88 l90.length c89 A91 l93.length c92 d94 A95 l97.length c96 r218 HP214 rfl (fun w9 h9 => SubS.rds OpD.len (by decide) hi107 ((ro215 _ hx0x0) w9 h9)) (show l90.length ≤ c89 ∧ l90.length ≤ 9223372036854775807 from by omega) hi109 rfl (fun w9 h9 => rdsL (abs_len hi109) (SubS.rds ResultD.len (by decide) hi108 (rdsL (abs_len hd0x1).symm ((ro215 _ hx0x1) w9 h9)))) (show l93.length ≤ c92 ∧ l93.length ≤ 9223372036854775807 from by omega) (fun x9 h9 => ⟨ro215 _ ((fun x9 h9 => hm0x1 x9 (SubS.mem hi108 h9)) x9 h9).1, ((fun x9 h9 => hm0x1 x9 (SubS.mem hi108 h9)) x9 h9).2⟩) rfl (fun w9 h9 => SubS.rds OwnerD.len (by decide) hi110 ((ro215 _ hx0x2) w9 h9)) (show l97.length ≤ c96 ∧ l97.length ≤ 9223372036854775807 from by omega) (by first | omega | (dsimp only; omega) | (simp only [List.length_nil]; omega)) hr219) ?_
 rintro _ w220 ⟨rfl, HQ221⟩
 have H222 := bk216 _ _ HQ221
 refine Gz (.bool (!r218)) (cn h66) (fw (.bool (!r218)) (Yl.pickF rfl (cn h66) rfl) (Mz rfl ?_))
 rcases Bool.eq_false_or_eq_true (r218) with h223 | h223
 refine Ga (MsgP p0 A0x0 c0x0 A0x1 c0x1 A0x2 c0x2) (cn h223) H222 4 Tryz.isAgg29 Tryz.sizeOf29 (Gz (.pointer (some ⟨g39, 2, none⟩)) (cn h223) (Gl (.slice A35 r29.xfields.ls.length c36) (cn h223) H222 2 Tryz.isAgg48 ?_))
 obtain ⟨r229, hr230⟩ : ∃ q, wire_allMay p0 r29.xfields.ls = q := ⟨_, rfl⟩
 obtain ⟨D224, HP225, ro226, bk227, rr228⟩ := Own.enter0 H222
 refine clG (cn h223) Tryz.call26 (wire_allMay_ok _ _ p0 A0x0 p0.xOps.ls.length c0x0 A0x1 p0.xResults.ls.length c0x1 d0x1 A0x2 p0.xOwners.ls.length c0x2 A35 r29.xfields.ls.length c36 r29.xfields.ls r229 HP225 rfl (ro226 _ hx0x0) (show p0.xOps.ls.length ≤ c0x0 ∧ p0.xOps.ls.length ≤ 9223372036854775807 from by omega) hd0x1 rfl (ro226 _ hx0x1) (show p0.xResults.ls.length ≤ c0x1 ∧ p0.xResults.ls.length ≤ 9223372036854775807 from by omega) (fun x9 h9 => ⟨ro226 _ (hm0x1 x9 h9).1, (hm0x1 x9 h9).2⟩) rfl (ro226 _ hx0x2) (show p0.xOwners.ls.length ≤ c0x2 ∧ p0.xOwners.ls.length ≤ 9223372036854775807 from by omega) (rr228 _ 3 _ rfl row_rds) rfl (by omega) (by first | omega | (dsimp only; omega) | (simp only [List.length_nil]; omega)) hr230) ?_
 rintro _ w231 ⟨rfl, HQ232⟩
 have H233 := bk227 _ _ HQ232
 refine Gz (.bool (!r229)) (cn h223) (fw (.bool (!r229)) (Yl.pickF rfl (cn h223) rfl) (nt ?_))
 rcases Bool.eq_false_or_eq_true (r229) with h234 | h234
 refine jF (cn h234) (sk (Wp.seq (Wp.seq ?_)))
 have H235 := H233.pk [2, 3, 4]
 refine Wp.region (Kz (.pointer (some ⟨g39, 0, none⟩)) (Lz (.int .i64 r29.xfrom) H235 0 Tryz.isAgg47 (Kz (.bool (decide (r29.xfrom = 1))) (Mz rfl ?_))))
 by_cases h236 : r29.xfrom = 1
 refine Gz (.pointer (some ⟨g39, 1, none⟩)) (dT h236) (Gl (.int .i64 r29.xto) (dT h236) H235 0 Tryz.isAgg47 (Gz (.bool (decide (r29.xto = 1))) (dT h236) (fw (.bool (decide (r29.xto = 1))) (Yl.pickT rfl (dT h236) rfl) (Mz rfl ?_))))
 by_cases h237 : r29.xto = 1
 refine Gz (.pointer (some ⟨g21, 1, none⟩)) (dT h237) (Gl (.int .i64 p0.xFrom) (dT h237) H235 2 Tryz.isAgg3 (Gz (.pointer (some ⟨g21, 2, none⟩)) (dT h237) (Gl (.int .i64 p0.xTo) (dT h237) H235 2 Tryz.isAgg3 (Gz (.bool (decide (p0.xFrom = p0.xTo))) (dT h237) (fw (.bool (decide (p0.xFrom = p0.xTo))) (Yl.pickT rfl (dT h237) rfl) (nt ?_))))))
 by_cases h238 : p0.xFrom = p0.xTo
 refine jT (dT h238) (Wp.seq ?_)
 have H239 := H235.pk []
 refine Wp.region (An rfl (rt (tR (rs ?_))))
 have H240 := H239.pk []
 obtain rfl : _ = 180 := hr.symm.trans (et (bnd_of hr31) (et (ip h44) (et (bnd_of hr51) (et (ip h55) (et (bnd_of hr62) (et (ip h66) (et (bnd_of hL210) (et (bnd_of hr219) (et (ip h223) (et (bnd_of hr230) (et (ip h234) (et (ip h236) (et (ip h237) (ip h238))))))))))))))
 exact ⟨rfl, H240⟩
 refine jF (dF h238) (sk (Wp.seq ?_))
 have H241 := H235.pk []
 refine Wp.region (An rfl (rt (rs ?_)))
 have H242 := H241.pk []
 obtain rfl : _ = 0 := hr.symm.trans (et (bnd_of hr31) (et (ip h44) (et (bnd_of hr51) (et (ip h55) (et (bnd_of hr62) (et (ip h66) (et (bnd_of hL210) (et (bnd_of hr219) (et (ip h223) (et (bnd_of hr230) (et (ip h234) (et (ip h236) (et (ip h237) (iN h238))))))))))))))
 exact ⟨rfl, H242⟩
 refine Sz (dF h237) (Sz (dF h237) (Sz (dF h237) (Sz (dF h237) (Sz (dF h237) (fw (.bool false) (Yl.pickF rfl (dF h237) rfl) (nt (jf (sk (Wp.seq ?_)))))))))
 have H243 := H235.pk []
 refine Wp.region (An rfl (rt (rs ?_)))
 have H244 := H243.pk []
 obtain rfl : _ = 0 := hr.symm.trans (et (bnd_of hr31) (et (ip h44) (et (bnd_of hr51) (et (ip h55) (et (bnd_of hr62) (et (ip h66) (et (bnd_of hL210) (et (bnd_of hr219) (et (ip h223) (et (bnd_of hr230) (et (ip h234) (et (ip h236) (iN h237)))))))))))))
 exact ⟨rfl, H244⟩
 refine Sz (dF h236) (Sz (dF h236) (Sz (dF h236) (fw (.bool false) (Yl.pickF rfl (dF h236) rfl) (Mz rfl (Sz rfl (Sz rfl (Sz rfl (Sz rfl (Sz rfl (fw (.bool false) (Yl.pickF rfl rfl rfl) (nt (jf (sk (Wp.seq ?_))))))))))))))
 have H245 := H235.pk []
 refine Wp.region (An rfl (rt (rs ?_)))
 have H246 := H245.pk []
 obtain rfl : _ = 0 := hr.symm.trans (et (bnd_of hr31) (et (ip h44) (et (bnd_of hr51) (et (ip h55) (et (bnd_of hr62) (et (ip h66) (et (bnd_of hL210) (et (bnd_of hr219) (et (ip h223) (et (bnd_of hr230) (et (ip h234) (iN h236))))))))))))
 exact ⟨rfl, H246⟩
 refine jT (cn h234) (Wp.seq ?_)
 have H247 := H233.pk [2, 3, 4]
 refine Wp.region (An rfl (rt (tR (rs ?_))))
 have H248 := H247.pk []
 obtain rfl : _ = 180 := hr.symm.trans (et (bnd_of hr31) (et (ip h44) (et (bnd_of hr51) (et (ip h55) (et (bnd_of hr62) (et (ip h66) (et (bnd_of hL210) (et (bnd_of hr219) (et (ip h223) (et (bnd_of hr230) (ifF h234)))))))))))
 exact ⟨rfl, H248⟩
 refine Sz (cn h223) (Sz (cn h223) (Sz (cn h223) (Sz (cn h223) (Sz (cn h223) (fw (.bool true) (Yl.pickT rfl (cn h223) rfl) (nt (jt (Wp.seq ?_))))))))
 have H249 := H222.pk [2, 3, 4]
 refine Wp.region (An rfl (rt (tR (rs ?_))))
 have H250 := H249.pk []
 obtain rfl : _ = 180 := hr.symm.trans (et (bnd_of hr31) (et (ip h44) (et (bnd_of hr51) (et (ip h55) (et (bnd_of hr62) (et (ip h66) (et (bnd_of hL210) (et (bnd_of hr219) (ifF h223)))))))))
 exact ⟨rfl, H250⟩
 refine Sz (cn h66) (Sz (cn h66) (Sz (cn h66) (Sz (cn h66) (Sz (cn h66) (Sz (cn h66) (fw (.bool true) (Yl.pickT rfl (cn h66) rfl) (Mz rfl (Sz rfl (Sz rfl (Sz rfl (Sz rfl (Sz rfl (fw (.bool true) (Yl.pickT rfl rfl rfl) (nt (jt (sr (An rfl (rt (tR (rs ?_))))))))))))))))))))
 have H251 := H65.pk []
 obtain rfl : _ = 180 := hr.symm.trans (et (bnd_of hr31) (et (ip h44) (et (bnd_of hr51) (et (ip h55) (et (bnd_of hr62) (ifF h66))))))
 exact ⟨rfl, H251⟩
 refine Sz (cn h55) (Sz (cn h55) (Sz (cn h55) (Sz (cn h55) (Sz (cn h55) (Sz (cn h55) (fw (.bool true) (Yl.pickT rfl (cn h55) rfl) (Mz rfl (Sz rfl (Sz rfl (Sz rfl (Sz rfl (Sz rfl (Sz rfl (fw (.bool true) (Yl.pickT rfl rfl rfl) (Mz rfl (Sz rfl (Sz rfl (Sz rfl (Sz rfl (Sz rfl (fw (.bool true) (Yl.pickT rfl rfl rfl) (nt (jt (sr (An rfl (rt (tR (rs ?_))))))))))))))))))))))))))))
 have H252 := H54.pk []
 obtain rfl : _ = 180 := hr.symm.trans (et (bnd_of hr31) (et (ip h44) (et (bnd_of hr51) (ifF h55))))
 exact ⟨rfl, H252⟩
 refine Sz (cn h44) (Sz (cn h44) (Sz (cn h44) (Sz (cn h44) (Sz (cn h44) (Sz (cn h44) (fw (.bool true) (Yl.pickT rfl (cn h44) rfl) (Mz rfl (Sz rfl (Sz rfl (Sz rfl (Sz rfl (Sz rfl (Sz rfl (fw (.bool true) (Yl.pickT rfl rfl rfl) (Mz rfl (Sz rfl (Sz rfl (Sz rfl (Sz rfl (Sz rfl (Sz rfl (fw (.bool true) (Yl.pickT rfl rfl rfl) (Mz rfl (Sz rfl (Sz rfl (Sz rfl (Sz rfl (Sz rfl (fw (.bool true) (Yl.pickT rfl rfl rfl) (nt (jt (sr (An rfl (rt (tR ?_)))))))))))))))))))))))))))))))))))
 refine rs ?_
 have H253 := H43.pk []
 obtain rfl : _ = 180 := hr.symm.trans (et (bnd_of hr31) (ifF h44))
 exact ⟨rfl, H253⟩
end Go.Proofs.YtccjclalngabhaaGreat
