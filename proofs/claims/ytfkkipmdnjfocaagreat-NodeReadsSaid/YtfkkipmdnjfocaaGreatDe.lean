/-
  node: the checks of a node.
-/
import Derived.Test.YtfkkipmdnjfocaaGreatDa
namespace Go.Proofs.YtfkkipmdnjfocaaGreat
open Go.RowKit
set_option linter.unusedVariables false
set_option linter.unusedSectionVars false
set_option linter.unusedSimpArgs false

theorem El24 : Elem Tryz.prog 24 9 1 16 := elem_of (z := .string ⟨List.toArray ([])⟩) Tryz.underlying24 (by kernel_rfl) rfl (by decide)

theorem El23 : Elem Tryz.prog 23 3 1 8 := elem_of (z := .int .i64 0) Tryz.underlying23 (by kernel_rfl) rfl (by decide)

theorem El25 : Elem Tryz.prog 25 46 1 24 := elem_of (z := .slice none 0 0) Tryz.underlying25 (by kernel_rfl) rfl (by decide)

structure stemD where
  xkids : Sv Int
  xpivots : Sv (List UInt8)
  xbuffers : Sv (Sv EntryD)

def stemD.cells (x : stemD) : List Value := [.slice x.xkids.A x.xkids.ls.length x.xkids.c, .slice x.xpivots.A x.xpivots.ls.length x.xpivots.c, .slice x.xbuffers.A x.xbuffers.ls.length x.xbuffers.c]

instance : Bk stemD := ⟨fun x _ => bk x.xkids + (bk x.xpivots + (bk x.xbuffers + (0)))⟩

theorem stemD.len : ∀ x, (stemD.cells x).length = 3 := fun _ => rfl

theorem stemD.one : ∀ x, ∀ u ∈ stemD.cells x, u.oneCell' = true := fun x u hu => by
  simp only [stemD.cells, List.mem_cons, List.not_mem_nil, or_false] at hu
  rcases hu with rfl | rfl | rfl <;> rfl

def stemD.Ok (w : World) (x : stemD) : Prop := (SvOk w 1 8 (eI .i64) (fun n => (-9223372036854775808) ≤ n ∧ n ≤ 9223372036854775807) x.xkids) ∧ (SvOk w 1 16 eS (fun s => s.length ≤ 140737488351232) x.xpivots) ∧ (SvOk w 1 24 (Sv.enc (β := EntryD)) (SvOk w 7 88 EntryD.cells (EntryD.Ok w)) x.xbuffers)

instance : Inhabited stemD := ⟨⟨default, default, default⟩⟩

abbrev Row46D := Sv EntryD

def Row46D.abs (x : Row46D) : Ll EntryD := ⟨x.ls⟩

def Row46D.own (x : Row46D) : List HP := [row x.A x.ls.length x.c (List.flatMap EntryD.cells x.ls) 61 7]

structure stemT where
  xkids : Ll Int
  xpivots : Ll (List UInt8)
  xbuffers : Ll (Ll EntryD)

instance : Inhabited stemT := ⟨⟨default, default, default⟩⟩

def stemD.abs (x : stemD) : stemT := ⟨⟨x.xkids.ls⟩, ⟨x.xpivots.ls⟩, ⟨List.map Row46D.abs x.xbuffers.ls⟩⟩

def stemD.own (x : stemD) : List HP := [row x.xkids.A x.xkids.ls.length x.xkids.c (List.flatMap (eI .i64) x.xkids.ls) 3 1, row x.xpivots.A x.xpivots.ls.length x.xpivots.c (List.flatMap eS x.xpivots.ls) 9 1, row x.xbuffers.A x.xbuffers.ls.length x.xbuffers.c (List.flatMap (Sv.enc (β := EntryD)) x.xbuffers.ls) 46 1]

def node_stem_rangeOf (p0 : stemT) (p1 : Int) : RangeD :=
  bnd (if p1 > 0 then bnd (List.getD p0.xpivots.ls (Int.toNat (p1 - 1)) default) fun yx32 => yx32 else []) fun sJrJ => if p1 < ((p0.xpivots.ls.length : Nat) : Int) then bnd (List.getD p0.xpivots.ls (Int.toNat p1) default) fun yx43 => RangeD.mk sJrJ yx43 else RangeD.mk sJrJ ([])

set_option maxRecDepth 100000 in
theorem node_stem_rangeOf_ok (w : World) (D : Nat → Prop) (p0 : stemT) (A0x0 : Option Addr) (n0x0 c0x0 : Nat) (A0x1 : Option Addr) (n0x1 c0x1 : Nat) (A0x2 : Option Addr) (n0x2 c0x2 : Nat) (d0x2 : List Row46D) (p1 : Int) (r0 : RangeD) (H : Own w D w []) (hn0x0 : n0x0 = p0.xkids.ls.length) (hx0x0 : Ro w D fun w' => Rds w' 1 A0x0 p0.xkids.ls.length (List.flatMap (eI .i64) p0.xkids.ls)) (hb0x0 : p0.xkids.ls.length ≤ c0x0 ∧ p0.xkids.ls.length ≤ 9223372036854775807) (hn0x1 : n0x1 = p0.xpivots.ls.length) (hx0x1 : Ro w D fun w' => Rds w' 1 A0x1 p0.xpivots.ls.length (List.flatMap eS p0.xpivots.ls)) (hb0x1 : p0.xpivots.ls.length ≤ c0x1 ∧ p0.xpivots.ls.length ≤ 9223372036854775807) (hd0x2 : List.map Row46D.abs d0x2 = p0.xbuffers.ls) (hn0x2 : n0x2 = p0.xbuffers.ls.length) (hx0x2 : Ro w D fun w' => Rds w' 1 A0x2 p0.xbuffers.ls.length (List.flatMap (Sv.enc (β := EntryD)) d0x2)) (hb0x2 : p0.xbuffers.ls.length ≤ c0x2 ∧ p0.xbuffers.ls.length ≤ 9223372036854775807) (hm0x2 : ∀ x ∈ d0x2, Ro w D (fun w' => Rds w' 7 x.A x.ls.length (List.flatMap EntryD.cells x.ls)) ∧ x.ls.length ≤ 9223372036854775807) (hh0 : 0 ≤ p1 ∧ p1 ≤ ((p0.xpivots.ls.length : Nat) : Int)) (hr : node_stem_rangeOf p0 p1 = r0) :
    Calls Tryz.prog 63 #[.agg #[.slice A0x0 n0x0 c0x0, .slice A0x1 n0x1 c0x1, .slice A0x2 n0x2 c0x2], .int .i64 p1] w (Ret fun v w' => v = .agg (RangeD.cells r0).toArray ∧ Own w D w' []) := by
  subst hn0x0 hn0x1 hn0x2
  have hdl0x2 := abs_len hd0x2
  refine Calls.body (args := [.agg #[.slice A0x0 p0.xkids.ls.length c0x0, .slice A0x1 p0.xpivots.ls.length c0x1, .slice A0x2 p0.xbuffers.ls.length c0x2], .int .i64 p1]) Tryz.func63 rfl rfl rfl ?_
  show Wp _ _ _ [(0, .agg #[.slice A0x0 p0.xkids.ls.length c0x0, .slice A0x1 p0.xpivots.ls.length c0x1, .slice A0x2 p0.xbuffers.ls.length c0x2]), (1, .int .i64 p1)] _ _
  refine Wp.seq (Wp.region ?_)
  refine WL.do rfl (Do.newP (cs := [.slice A0x0 p0.xkids.ls.length c0x0, .slice A0x1 p0.xpivots.ls.length c0x1, .slice A0x2 p0.xbuffers.ls.length c0x2]) (t := 76) H rfl rfl (fun _ => by kernel_rfl) ?_)
  intro g21 w22 H23
  refine WL.do rfl (Do.newP (cs := [.string ⟨List.toArray ([])⟩, .string ⟨List.toArray ([])⟩]) (t := 55) H23 rfl rfl (fun _ => by kernel_rfl) ?_)
  intro g24 w25 H26
  refine WL.nil (Fin.then (Wp.seq (Wp.region ?_)))
  refine WL.do rfl (Do.newP (cs := [.string ⟨List.toArray ([])⟩, .string ⟨List.toArray ([])⟩]) (t := 55) H26 rfl rfl (fun _ => by kernel_rfl) ?_)
  intro g27 w28 H29
  refine WL.nil (Fin.then (Wp.seq (Wp.seq (Wp.region (Mv rfl rfl (Kn (v := .bool (decide (p1 > 0))) rfl rfl rfl (fun _ => by kernel_rfl) (WL.nil (Fin.then ?_))))))))
  refine Wp.joinT (ι := (List UInt8)) (fun i => [(5, .pointer (some ⟨g27, 0, none⟩)), (4, .pointer (some ⟨g24, 0, none⟩)), (2, .pointer (some ⟨g21, 0, none⟩)), (1, .int .i64 p1)]) (fun (i : (List UInt8)) w' => Own w D w' [blk g27 [.string ⟨List.toArray i⟩, .string ⟨List.toArray ([])⟩] 55, blk g24 [.string ⟨List.toArray ([])⟩, .string ⟨List.toArray ([])⟩] 55, blk g21 [.slice A0x0 p0.xkids.ls.length c0x0, .slice A0x1 p0.xpivots.ls.length c0x1, .slice A0x2 p0.xbuffers.ls.length c0x2] 76] ∧ ((if p1 > 0 then bnd (List.getD p0.xpivots.ls (Int.toNat (p1 - 1)) default) fun yx32 => yx32 else []) = i)) ?_ ?_
  by_cases h31 : p1 > 0
  refine Wp.cond1 rfl (decide_eq_true h31) (Wp.region (Kn (v := .pointer (some ⟨g21, 1, none⟩)) rfl rfl rfl (fun _ => by kernel_rfl) (WL.val (v := .slice A0x1 p0.xpivots.ls.length c0x1) rfl (Yl.load rfl (Lds.one Tryz.isAgg24 (Cls.of (H29.cls (i := 2) rfl) rfl))) (Mv rfl rfl (WL.val (v := .int .i64 ((Int.toNat (p1 - 1) : Nat) : Int)) rfl (Yl.int (e := IntKind.i64.wrap (p1 - 1)) (Yl.kern rfl rfl (fun _ => by kernel_rfl)) (by rw [IntWalk.i64_in _ (by omega)]; omega)) ?_)))))
  obtain ⟨x32, hx33⟩ := rds_at (ls := p0.xpivots.ls) (i := Int.toNat (p1 - 1)) eS_len (by decide) (H29.ro hx0x1) (by first | omega | (simp; done) | (simp; omega))
  refine WL.val (v := .pointer (some ⟨ab A0x1, ao A0x1 + (Int.toNat (p1 - 1)) * 1, none⟩)) rfl (Yl.indexAddr (El24) rfl rfl ((H29.ro hx0x1).addr (i := Int.toNat (p1 - 1)) (by omega)) (by omega)) (WL.val (v := .string ⟨List.toArray x32⟩) rfl (Yl.load rfl (Lds.one Tryz.isAgg9 (((H29.ro hx0x1).elem eS_len hx33 (by decide)).at_ (k := 0) rfl))) (Kn (v := .pointer (some ⟨g27, 0, none⟩)) rfl rfl rfl (fun _ => by kernel_rfl) ?_))
  refine WL.do0 (Do.store (vs := [.string ⟨List.toArray x32⟩]) (o := 0) H29 rfl rfl Tryz.sizeOf9 rfl rfl rfl rfl ?_)
  intro w34 H35
  refine WL.nil ?_
  have H36 := H35.pick [0, 1, 2] (by decide) rfl
  exact Fin.join x32 ⟨rfl, rfl, rfl, rfl, trivial⟩ ⟨H36, (show (if p1 > 0 then bnd (List.getD p0.xpivots.ls (Int.toNat (p1 - 1)) default) fun yx32 => yx32 else []) = x32 from Eq.trans (if_pos h31) (bnd_of (getD_of hx33)))⟩
  refine Wp.cond0 rfl (decide_eq_false h31) (Wp.skip ?_)
  have H37 := H29.pick [0, 1, 2] (by decide) rfl
  exact Fin.join ([]) ⟨rfl, rfl, rfl, rfl, trivial⟩ ⟨H37, (show (if p1 > 0 then bnd (List.getD p0.xpivots.ls (Int.toNat (p1 - 1)) default) fun yx32 => yx32 else []) = ([]) from if_neg h31)⟩
  rintro s30 w38 ⟨H39, hf40⟩
  show Wp _ _ _ [(5, .pointer (some ⟨g27, 0, none⟩)), (4, .pointer (some ⟨g24, 0, none⟩)), (2, .pointer (some ⟨g21, 0, none⟩)), (1, .int .i64 p1)] _ _
  replace hf40 : (if p1 > 0 then bnd (List.getD p0.xpivots.ls (Int.toNat (p1 - 1)) default) fun yx32 => yx32 else []) = s30 := hf40
  have hj41 := hf40
  refine Wp.seq (Wp.seq (Wp.region (Mv rfl rfl (Kn (v := .pointer (some ⟨g21, 1, none⟩)) rfl rfl rfl (fun _ => by kernel_rfl) (WL.val (v := .slice A0x1 p0.xpivots.ls.length c0x1) rfl (Yl.load rfl (Lds.one Tryz.isAgg24 (Cls.of (H39.cls (i := 2) rfl) rfl))) (Kn (v := .int .i64 ((p0.xpivots.ls.length : Nat) : Int)) rfl rfl rfl (fun _ => by kernel_rfl) (Kn (v := .bool (decide (p1 < ((p0.xpivots.ls.length : Nat) : Int)))) rfl rfl rfl (fun _ => by kernel_rfl) (WL.nil (Fin.then ?_)))))))))
  by_cases h42 : p1 < ((p0.xpivots.ls.length : Nat) : Int)
  refine Wp.cond1 rfl (decide_eq_true h42) (Wp.region (Kn (v := .pointer (some ⟨g21, 1, none⟩)) rfl rfl rfl (fun _ => by kernel_rfl) (WL.val (v := .slice A0x1 p0.xpivots.ls.length c0x1) rfl (Yl.load rfl (Lds.one Tryz.isAgg24 (Cls.of (H39.cls (i := 2) rfl) rfl))) (WL.val (v := .int .i64 ((Int.toNat p1 : Nat) : Int)) rfl (Yl.int (e := p1) (Yl.move rfl) (by omega)) ?_))))
  obtain ⟨x43, hx44⟩ := rds_at (ls := p0.xpivots.ls) (i := Int.toNat p1) eS_len (by decide) (H39.ro hx0x1) (by first | omega | (simp; done) | (simp; omega))
  refine WL.val (v := .pointer (some ⟨ab A0x1, ao A0x1 + (Int.toNat p1) * 1, none⟩)) rfl (Yl.indexAddr (El24) rfl rfl ((H39.ro hx0x1).addr (i := Int.toNat p1) (by omega)) (by omega)) (WL.val (v := .string ⟨List.toArray x43⟩) rfl (Yl.load rfl (Lds.one Tryz.isAgg9 (((H39.ro hx0x1).elem eS_len hx44 (by decide)).at_ (k := 0) rfl))) (Kn (v := .pointer (some ⟨g27, 1, none⟩)) rfl rfl rfl (fun _ => by kernel_rfl) ?_))
  refine WL.do0 (Do.store (vs := [.string ⟨List.toArray x43⟩]) (o := 1) H39 rfl rfl Tryz.sizeOf9 rfl rfl rfl rfl ?_)
  intro w45 H46
  refine WL.nil (Fin.then (Wp.seq ?_))
  have H47 := H46.pick [0, 1] (by decide) rfl
  refine Wp.region (WL.val (v := .agg #[.string ⟨List.toArray s30⟩, .string ⟨List.toArray x43⟩]) rfl (Yl.load rfl (Lds.agg (cs := [.string ⟨List.toArray s30⟩, .string ⟨List.toArray x43⟩]) Tryz.isAgg55 Tryz.sizeOf55 ((H47.cls (i := 0) rfl).lit (k := 0) (m := 2) rfl))) ?_)
  have H48 := H47.pick [1, 0] (by decide) rfl
  refine WL.do0 (Do.store (vs := [.string ⟨List.toArray s30⟩, .string ⟨List.toArray x43⟩]) (o := 0) H48 rfl rfl Tryz.sizeOf55 rfl rfl rfl rfl ?_)
  intro w49 H50
  refine WL.nil (Fin.then (Wp.ret (Fin.res (resC rfl rfl (Lds.agg (cs := [.string ⟨List.toArray s30⟩, .string ⟨List.toArray x43⟩]) Tryz.isAgg55 Tryz.sizeOf55 ((H50.cls (i := 0) rfl).lit (k := 0) (m := 2) rfl))) ?_)))
  have H51 := H50.pick [] (by decide) rfl
  have e : node_stem_rangeOf p0 p1 = RangeD.mk s30 x43 := Eq.trans (bnd_of hj41) (Eq.trans (if_pos h42) (bnd_of (getD_of hx44)))
  obtain rfl := e.symm.trans hr
  exact ⟨rfl, H51⟩
  refine Wp.cond0 rfl (decide_eq_false h42) (Wp.skip (Fin.then (Wp.seq ?_)))
  have H52 := H39.pick [0, 1] (by decide) rfl
  refine Wp.region (WL.val (v := .agg #[.string ⟨List.toArray s30⟩, .string ⟨List.toArray ([])⟩]) rfl (Yl.load rfl (Lds.agg (cs := [.string ⟨List.toArray s30⟩, .string ⟨List.toArray ([])⟩]) Tryz.isAgg55 Tryz.sizeOf55 ((H52.cls (i := 0) rfl).lit (k := 0) (m := 2) rfl))) ?_)
  have H53 := H52.pick [1, 0] (by decide) rfl
  refine WL.do0 (Do.store (vs := [.string ⟨List.toArray s30⟩, .string ⟨List.toArray ([])⟩]) (o := 0) H53 rfl rfl Tryz.sizeOf55 rfl rfl rfl rfl ?_)
  intro w54 H55
  refine WL.nil (Fin.then (Wp.ret (Fin.res (resC rfl rfl (Lds.agg (cs := [.string ⟨List.toArray s30⟩, .string ⟨List.toArray ([])⟩]) Tryz.isAgg55 Tryz.sizeOf55 ((H55.cls (i := 0) rfl).lit (k := 0) (m := 2) rfl))) ?_)))
  have H56 := H55.pick [] (by decide) rfl
  have e : node_stem_rangeOf p0 p1 = RangeD.mk s30 ([]) := Eq.trans (bnd_of hj41) (if_neg h42)
  obtain rfl := e.symm.trans hr
  exact ⟨rfl, H56⟩

def node_stem_check_L0 (p0 : stemT) : List Int → Unit ⊕ Int
  | [] => Sum.inl ()
  | x39 :: q31 => if x39 < 1 then Sum.inr (130) else if x39 > 2147483647 then Sum.inr (130) else node_stem_check_L0 p0 q31

def node_stem_check_L1 (p0 : stemT) : List (List UInt8) → Nat → Unit ⊕ Int
  | [], k48 => Sum.inl ()
  | x57 :: q49, k48 => bnd (span_CheckKey x57) fun yr65 => if yr65 = 0 then if ((k48 : Nat) : Int) > 0 then bnd (List.getD p0.xpivots.ls (k48 - 1) default) fun yx73 => if x57 ≤ yx73 then Sum.inr (130) else node_stem_check_L1 p0 q49 (k48 + 1) else node_stem_check_L1 p0 q49 (k48 + 1) else Sum.inr (130)

def node_stem_check_L2 (p0 : stemT) : List (Ll EntryD) → Unit ⊕ Int
  | [] => Sum.inl ()
  | x90 :: q82 => bnd (buffer_Check x90.ls) fun yr100 => if yr100 = 0 then node_stem_check_L2 p0 q82 else Sum.inr (yr100)

def node_stem_check_L4 (p0 : stemT) (k109 : Nat) : List EntryD → Unit ⊕ Int
  | [] => Sum.inl ()
  | x132 :: q124 => bnd (node_stem_rangeOf p0 ((k109 : Nat) : Int)) fun yr147 => bnd (node_within yr147 x132.xOp) fun yr157 => if yr157 = true then node_stem_check_L4 p0 k109 q124 else Sum.inr (130)

def node_stem_check_L3 (p0 : stemT) : List (Ll EntryD) → Nat → Unit ⊕ Int
  | [], k109 => Sum.inl ()
  | x118 :: q110, k109 => lpS (node_stem_check_L4 p0 k109 x118.ls) fun _ => node_stem_check_L3 p0 q110 (k109 + 1)

def node_stem_check (p0 : stemT) : Int :=
  if ((p0.xkids.ls.length : Nat) : Int) < 2 then 130 else if ((p0.xkids.ls.length : Nat) : Int) > 8 then 130 else if ((p0.xpivots.ls.length : Nat) : Int) = ((p0.xkids.ls.length - 1 : Nat) : Int) then if ((p0.xbuffers.ls.length : Nat) : Int) = ((p0.xkids.ls.length : Nat) : Int) then lp (node_stem_check_L0 p0 p0.xkids.ls) fun _ => lp (node_stem_check_L1 p0 p0.xpivots.ls 0) fun _ => lp (node_stem_check_L2 p0 p0.xbuffers.ls) fun _ => lp (node_stem_check_L3 p0 p0.xbuffers.ls 0) fun _ => 0 else 130 else 130

set_option maxRecDepth 100000 in
theorem node_stem_check_ok (w : World) (D : Nat → Prop) (p0 : stemT) (A0x0 : Option Addr) (n0x0 c0x0 : Nat) (A0x1 : Option Addr) (n0x1 c0x1 : Nat) (A0x2 : Option Addr) (n0x2 c0x2 : Nat) (d0x2 : List Row46D) (r0 : Int) (H : Own w D w []) (hn0x0 : n0x0 = p0.xkids.ls.length) (hx0x0 : Ro w D fun w' => Rds w' 1 A0x0 p0.xkids.ls.length (List.flatMap (eI .i64) p0.xkids.ls)) (hb0x0 : p0.xkids.ls.length ≤ c0x0 ∧ p0.xkids.ls.length ≤ 9223372036854775807) (hn0x1 : n0x1 = p0.xpivots.ls.length) (hx0x1 : Ro w D fun w' => Rds w' 1 A0x1 p0.xpivots.ls.length (List.flatMap eS p0.xpivots.ls)) (hb0x1 : p0.xpivots.ls.length ≤ c0x1 ∧ p0.xpivots.ls.length ≤ 9223372036854775807) (hd0x2 : List.map Row46D.abs d0x2 = p0.xbuffers.ls) (hn0x2 : n0x2 = p0.xbuffers.ls.length) (hx0x2 : Ro w D fun w' => Rds w' 1 A0x2 p0.xbuffers.ls.length (List.flatMap (Sv.enc (β := EntryD)) d0x2)) (hb0x2 : p0.xbuffers.ls.length ≤ c0x2 ∧ p0.xbuffers.ls.length ≤ 9223372036854775807) (hm0x2 : ∀ x ∈ d0x2, Ro w D (fun w' => Rds w' 7 x.A x.ls.length (List.flatMap EntryD.cells x.ls)) ∧ x.ls.length ≤ 9223372036854775807) (hr : node_stem_check p0 = r0) :
    Calls Tryz.prog 36 #[.agg #[.slice A0x0 n0x0 c0x0, .slice A0x1 n0x1 c0x1, .slice A0x2 n0x2 c0x2]] w (Ret fun v w' => v = .int .i64 r0 ∧ Own w D w' [] ∧ (¬ (r0 = 0) ∨ (p0.xkids.ls.length ≤ 8 ∧ p0.xpivots.ls.length ≤ 8 ∧ p0.xbuffers.ls.length ≤ 8))) := by
  subst hn0x0 hn0x1 hn0x2
  have hdl0x2 := abs_len hd0x2
  refine Calls.body (args := [.agg #[.slice A0x0 p0.xkids.ls.length c0x0, .slice A0x1 p0.xpivots.ls.length c0x1, .slice A0x2 p0.xbuffers.ls.length c0x2]]) Tryz.func36 rfl rfl rfl ?_
  show Wp _ _ _ [(0, .agg #[.slice A0x0 p0.xkids.ls.length c0x0, .slice A0x1 p0.xpivots.ls.length c0x1, .slice A0x2 p0.xbuffers.ls.length c0x2])] _ _
  refine Wp.seq (Wp.region ?_)
  refine WL.do rfl (Do.newP (cs := [.slice A0x0 p0.xkids.ls.length c0x0, .slice A0x1 p0.xpivots.ls.length c0x1, .slice A0x2 p0.xbuffers.ls.length c0x2]) (t := 76) H rfl rfl (fun _ => by kernel_rfl) ?_)
  intro g21 w22 H23
  refine As rfl rfl (WL.nil (Fin.then (Wp.seq (Wp.seq (Wp.region (Kn (v := .pointer (some ⟨g21, 0, none⟩)) rfl rfl rfl (fun _ => by kernel_rfl) (WL.val (v := .slice A0x0 p0.xkids.ls.length c0x0) rfl (Yl.load rfl (Lds.one Tryz.isAgg23 (Cls.of (H23.cls (i := 0) rfl) rfl))) (Kn (v := .int .i64 ((p0.xkids.ls.length : Nat) : Int)) rfl rfl rfl (fun _ => by kernel_rfl) (Kn (v := .bool (decide (((p0.xkids.ls.length : Nat) : Int) < 2))) rfl rfl rfl (fun _ => by kernel_rfl) (Mv rfl rfl ?_))))))))))
  by_cases h24 : ((p0.xkids.ls.length : Nat) : Int) < 2
  refine Sk rfl rfl (decide_eq_true h24) rfl (Sk rfl rfl (decide_eq_true h24) rfl (Sk rfl rfl (decide_eq_true h24) rfl (Sk rfl rfl (decide_eq_true h24) rfl (WL.val (v := .bool true) rfl (Yl.pickT rfl (decide_eq_true h24) rfl) (Mv rfl rfl (Sk rfl rfl rfl rfl (Sk rfl rfl rfl rfl (Sk rfl rfl rfl rfl (Sk rfl rfl rfl rfl (Sk rfl rfl rfl rfl (Sk rfl rfl rfl rfl (Sk rfl rfl rfl rfl (Sk rfl rfl rfl rfl (WL.val (v := .bool true) rfl (Yl.pickT rfl rfl rfl) (Mv rfl rfl (Sk rfl rfl rfl rfl (Sk rfl rfl rfl rfl (Sk rfl rfl rfl rfl (Sk rfl rfl rfl rfl (Sk rfl rfl rfl rfl (Sk rfl rfl rfl rfl (Sk rfl rfl rfl rfl (WL.val (v := .bool true) rfl (Yl.pickT rfl rfl rfl) (WL.nil (Fin.then (Wp.cond1 rfl rfl (Wp.seq (Wp.region (As rfl rfl (WL.nil (Fin.then (Wp.ret (Fin.thenR (Fin.res (res1 rfl rfl) ?_))))))))))))))))))))))))))))))))))
  have H25 := H23.pick [] (by decide) rfl
  have e : node_stem_check p0 = 130 := if_pos h24
  obtain rfl := e.symm.trans hr
  exact ⟨rfl, H25, (by omega)⟩
  refine WL.valG (v := .pointer (some ⟨g21, 0, none⟩)) rfl rfl (decide_eq_false h24) rfl (Yl.kern rfl rfl (fun _ => by kernel_rfl)) (WL.valG (v := .slice A0x0 p0.xkids.ls.length c0x0) rfl rfl (decide_eq_false h24) rfl (Yl.load rfl (Lds.one Tryz.isAgg23 (Cls.of (H23.cls (i := 0) rfl) rfl))) (WL.valG (v := .int .i64 ((p0.xkids.ls.length : Nat) : Int)) rfl rfl (decide_eq_false h24) rfl (Yl.kern rfl rfl (fun _ => by kernel_rfl)) (WL.valG (v := .bool (decide (((p0.xkids.ls.length : Nat) : Int) > 8))) rfl rfl (decide_eq_false h24) rfl (Yl.kern rfl rfl (fun _ => by kernel_rfl)) (WL.val (v := .bool (decide (((p0.xkids.ls.length : Nat) : Int) > 8))) rfl (Yl.pickF rfl (decide_eq_false h24) rfl) (Mv rfl rfl ?_)))))
  by_cases h26 : ((p0.xkids.ls.length : Nat) : Int) > 8
  refine Sk rfl rfl (decide_eq_true h26) rfl (Sk rfl rfl (decide_eq_true h26) rfl (Sk rfl rfl (decide_eq_true h26) rfl (Sk rfl rfl (decide_eq_true h26) rfl (Sk rfl rfl (decide_eq_true h26) rfl (Sk rfl rfl (decide_eq_true h26) rfl (Sk rfl rfl (decide_eq_true h26) rfl (Sk rfl rfl (decide_eq_true h26) rfl (WL.val (v := .bool true) rfl (Yl.pickT rfl (decide_eq_true h26) rfl) (Mv rfl rfl (Sk rfl rfl rfl rfl (Sk rfl rfl rfl rfl (Sk rfl rfl rfl rfl (Sk rfl rfl rfl rfl (Sk rfl rfl rfl rfl (Sk rfl rfl rfl rfl (Sk rfl rfl rfl rfl (WL.val (v := .bool true) rfl (Yl.pickT rfl rfl rfl) (WL.nil (Fin.then (Wp.cond1 rfl rfl (Wp.seq (Wp.region (As rfl rfl (WL.nil (Fin.then (Wp.ret (Fin.thenR (Fin.res (res1 rfl rfl) ?_))))))))))))))))))))))))))))
  have H27 := H23.pick [] (by decide) rfl
  have e : node_stem_check p0 = 130 := Eq.trans (if_neg h24) (if_pos h26)
  obtain rfl := e.symm.trans hr
  exact ⟨rfl, H27, (by omega)⟩
  refine WL.valG (v := .pointer (some ⟨g21, 1, none⟩)) rfl rfl (decide_eq_false h26) rfl (Yl.kern rfl rfl (fun _ => by kernel_rfl)) (WL.valG (v := .slice A0x1 p0.xpivots.ls.length c0x1) rfl rfl (decide_eq_false h26) rfl (Yl.load rfl (Lds.one Tryz.isAgg24 (Cls.of (H23.cls (i := 0) rfl) rfl))) (WL.valG (v := .int .i64 ((p0.xpivots.ls.length : Nat) : Int)) rfl rfl (decide_eq_false h26) rfl (Yl.kern rfl rfl (fun _ => by kernel_rfl)) (WL.valG (v := .pointer (some ⟨g21, 0, none⟩)) rfl rfl (decide_eq_false h26) rfl (Yl.kern rfl rfl (fun _ => by kernel_rfl)) (WL.valG (v := .slice A0x0 p0.xkids.ls.length c0x0) rfl rfl (decide_eq_false h26) rfl (Yl.load rfl (Lds.one Tryz.isAgg23 (Cls.of (H23.cls (i := 0) rfl) rfl))) (WL.valG (v := .int .i64 ((p0.xkids.ls.length : Nat) : Int)) rfl rfl (decide_eq_false h26) rfl (Yl.kern rfl rfl (fun _ => by kernel_rfl)) (WL.valG (v := .int .i64 ((p0.xkids.ls.length - 1 : Nat) : Int)) rfl rfl (decide_eq_false h26) rfl (Yl.int (e := IntKind.i64.wrap (((p0.xkids.ls.length : Nat) : Int) - 1)) (Yl.kern rfl rfl (fun _ => by kernel_rfl)) (by rw [IntWalk.i64_in _ (by omega)]; omega)) (WL.valG (v := .bool (decide (¬ (((p0.xpivots.ls.length : Nat) : Int) = ((p0.xkids.ls.length - 1 : Nat) : Int))))) rfl rfl (decide_eq_false h26) rfl (Yl.bool (e := !(decide (((p0.xpivots.ls.length : Nat) : Int) = ((p0.xkids.ls.length - 1 : Nat) : Int)))) (Yl.kern rfl rfl (fun _ => by kernel_rfl)) decide_not.symm) (WL.val (v := .bool (decide (¬ (((p0.xpivots.ls.length : Nat) : Int) = ((p0.xkids.ls.length - 1 : Nat) : Int))))) rfl (Yl.pickF rfl (decide_eq_false h26) rfl) (Mv rfl rfl ?_)))))))))
  by_cases h28 : ((p0.xpivots.ls.length : Nat) : Int) = ((p0.xkids.ls.length - 1 : Nat) : Int)
  refine WL.valG (v := .pointer (some ⟨g21, 2, none⟩)) rfl rfl (decide_eq_false (not_not_intro h28)) rfl (Yl.kern rfl rfl (fun _ => by kernel_rfl)) (WL.valG (v := .slice A0x2 p0.xbuffers.ls.length c0x2) rfl rfl (decide_eq_false (not_not_intro h28)) rfl (Yl.load rfl (Lds.one Tryz.isAgg25 (Cls.of (H23.cls (i := 0) rfl) rfl))) (WL.valG (v := .int .i64 ((p0.xbuffers.ls.length : Nat) : Int)) rfl rfl (decide_eq_false (not_not_intro h28)) rfl (Yl.kern rfl rfl (fun _ => by kernel_rfl)) (WL.valG (v := .pointer (some ⟨g21, 0, none⟩)) rfl rfl (decide_eq_false (not_not_intro h28)) rfl (Yl.kern rfl rfl (fun _ => by kernel_rfl)) (WL.valG (v := .slice A0x0 p0.xkids.ls.length c0x0) rfl rfl (decide_eq_false (not_not_intro h28)) rfl (Yl.load rfl (Lds.one Tryz.isAgg23 (Cls.of (H23.cls (i := 0) rfl) rfl))) (WL.valG (v := .int .i64 ((p0.xkids.ls.length : Nat) : Int)) rfl rfl (decide_eq_false (not_not_intro h28)) rfl (Yl.kern rfl rfl (fun _ => by kernel_rfl)) (WL.valG (v := .bool (decide (¬ (((p0.xbuffers.ls.length : Nat) : Int) = ((p0.xkids.ls.length : Nat) : Int))))) rfl rfl (decide_eq_false (not_not_intro h28)) rfl (Yl.bool (e := !(decide (((p0.xbuffers.ls.length : Nat) : Int) = ((p0.xkids.ls.length : Nat) : Int)))) (Yl.kern rfl rfl (fun _ => by kernel_rfl)) decide_not.symm) (WL.val (v := .bool (decide (¬ (((p0.xbuffers.ls.length : Nat) : Int) = ((p0.xkids.ls.length : Nat) : Int))))) rfl (Yl.pickF rfl (decide_eq_false (not_not_intro h28)) rfl) (WL.nil (Fin.then ?_)))))))))
  by_cases h29 : ((p0.xbuffers.ls.length : Nat) : Int) = ((p0.xkids.ls.length : Nat) : Int)
  refine Wp.cond0 rfl (decide_eq_false (not_not_intro h29)) (Wp.skip (Fin.then (Wp.seq (Wp.seq (Wp.region (Kn (v := .pointer (some ⟨g21, 0, none⟩)) rfl rfl rfl (fun _ => by kernel_rfl) (WL.val (v := .slice A0x0 p0.xkids.ls.length c0x0) rfl (Yl.load rfl (Lds.one Tryz.isAgg23 (Cls.of (H23.cls (i := 0) rfl) rfl))) (Kn (v := .int .i64 ((p0.xkids.ls.length : Nat) : Int)) rfl rfl rfl (fun _ => by kernel_rfl) (Mv rfl rfl (WL.nil (Fin.then (Wp.block ?_))))))))))))
  have H32 := H23.pick [0] (by decide) rfl
  refine Wp.loop (ι := Nat) (fun i => [(2, .int .i64 0), (46, .int .i64 ((i : Nat) : Int)), (45, .int .i64 ((p0.xkids.ls.length : Nat) : Int)), (44, .slice A0x0 p0.xkids.ls.length c0x0), (1, .pointer (some ⟨g21, 0, none⟩))]) (fun (i : Nat) w' => Own w D w' [blk g21 [.slice A0x0 p0.xkids.ls.length c0x0, .slice A0x1 p0.xpivots.ls.length c0x1, .slice A0x2 p0.xbuffers.ls.length c0x2] 76] ∧ (i ≤ p0.xkids.ls.length ∧ node_stem_check_L0 p0 p0.xkids.ls = node_stem_check_L0 p0 (List.drop i p0.xkids.ls))) (fun i => p0.xkids.ls.length - i) 0 ⟨rfl, rfl, rfl, rfl, rfl, trivial⟩ ⟨H32, (show 0 ≤ p0.xkids.ls.length ∧ node_stem_check_L0 p0 p0.xkids.ls = node_stem_check_L0 p0 (List.drop 0 p0.xkids.ls) from ⟨by omega, rfl⟩)⟩ ?_
  rintro k30 w33 ⟨H34, hf35⟩
  show Wp _ _ _ [(2, .int .i64 0), (46, .int .i64 ((k30 : Nat) : Int)), (45, .int .i64 ((p0.xkids.ls.length : Nat) : Int)), (44, .slice A0x0 p0.xkids.ls.length c0x0), (1, .pointer (some ⟨g21, 0, none⟩))] _ _
  replace hf35 : k30 ≤ p0.xkids.ls.length ∧ node_stem_check_L0 p0 p0.xkids.ls = node_stem_check_L0 p0 (List.drop k30 p0.xkids.ls) := hf35
  obtain ⟨hi37, hq36⟩ := hf35
  refine Wp.seq (Wp.region (Kn (v := .bool (decide (((k30 : Nat) : Int) < ((p0.xkids.ls.length : Nat) : Int)))) rfl rfl rfl (fun _ => by kernel_rfl) (WL.nil (Fin.then (Wp.seq ?_)))))
  by_cases h38 : ((k30 : Nat) : Int) < ((p0.xkids.ls.length : Nat) : Int)
  obtain ⟨x39, hx40⟩ := rds_at (ls := p0.xkids.ls) (i := k30) eI_len (by decide) (H34.ro hx0x0) (by first | omega | (simp; done) | (simp; omega))
  have hd41 := drop_at hx40
  refine Wp.cond1 rfl (decide_eq_true h38) (Wp.skip (Fin.then (Wp.seq (Wp.block (Wp.seq (Wp.region (WL.val (v := .pointer (some ⟨ab A0x0, ao A0x0 + k30 * 1, none⟩)) rfl (Yl.indexAddr (El23) rfl rfl ((H34.ro hx0x0).addr (i := k30) (by omega)) (by omega)) (WL.val (v := .int .i64 x39) rfl (Yl.load rfl (Lds.one Tryz.isAgg3 (((H34.ro hx0x0).elem eI_len hx40 (by decide)).at_ (k := 0) rfl))) (As rfl rfl (WL.nil (Fin.then (Wp.seq (Wp.region (Mv rfl rfl (Kn (v := .bool (decide (x39 < 1))) rfl rfl rfl (fun _ => by kernel_rfl) (Mv rfl rfl ?_))))))))))))))))
  by_cases h42 : x39 < 1
  refine Sk rfl rfl (decide_eq_true h42) rfl (Sk rfl rfl (decide_eq_true h42) rfl (WL.val (v := .bool true) rfl (Yl.pickT rfl (decide_eq_true h42) rfl) (WL.nil (Fin.then (Wp.cond1 rfl rfl (Wp.seq (Wp.region (As rfl rfl (WL.nil (Fin.then (Wp.ret (Fin.blockR (Fin.thenR (Fin.thenR (Fin.blockR (Fin.thenR (Fin.res (res1 rfl rfl) ?_)))))))))))))))))
  have H43 := H34.pick [] (by decide) rfl
  have e : node_stem_check p0 = 130 := Eq.trans (if_neg h24) (Eq.trans (if_neg h26) (Eq.trans (if_pos h28) (Eq.trans (if_pos h29) (lp_r (Eq.trans (hq36) (Eq.trans (congrArg (fun q => node_stem_check_L0 p0 q) hd41) (if_pos h42)))))))
  obtain rfl := e.symm.trans hr
  exact ⟨rfl, H43, (by omega)⟩
  refine WL.valG (v := .int .i64 x39) rfl rfl (decide_eq_false h42) rfl (Yl.move rfl) (WL.valG (v := .bool (decide (x39 > 2147483647))) rfl rfl (decide_eq_false h42) rfl (Yl.kern rfl rfl (fun _ => by kernel_rfl)) (WL.val (v := .bool (decide (x39 > 2147483647))) rfl (Yl.pickF rfl (decide_eq_false h42) rfl) (WL.nil (Fin.then ?_))))
  by_cases h44 : x39 > 2147483647
  refine Wp.cond1 rfl (decide_eq_true h44) (Wp.seq (Wp.region (As rfl rfl (WL.nil (Fin.then (Wp.ret (Fin.blockR (Fin.thenR (Fin.thenR (Fin.blockR (Fin.thenR (Fin.res (res1 rfl rfl) ?_))))))))))))
  have H45 := H34.pick [] (by decide) rfl
  have e : node_stem_check p0 = 130 := Eq.trans (if_neg h24) (Eq.trans (if_neg h26) (Eq.trans (if_pos h28) (Eq.trans (if_pos h29) (lp_r (Eq.trans (hq36) (Eq.trans (congrArg (fun q => node_stem_check_L0 p0 q) hd41) (Eq.trans (if_neg h42) (if_pos h44))))))))
  obtain rfl := e.symm.trans hr
  exact ⟨rfl, H45, (by omega)⟩
  refine Wp.cond0 rfl (decide_eq_false h44) (Wp.skip (Fin.blockN (Fin.then (Wp.region (WL.val (v := .int .i64 ((k30 + 1 : Nat) : Int)) rfl (Yl.int (e := IntKind.i64.wrap (((k30 : Nat) : Int) + 1)) (Yl.kern rfl rfl (fun _ => by kernel_rfl)) (by rw [IntWalk.i64_in _ (by omega)]; omega)) (Mv rfl rfl (WL.nil ?_)))))))
  have H46 := H34.pick [0] (by decide) rfl
  exact Fin.round (k30 + 1) ⟨rfl, rfl, rfl, rfl, rfl, trivial⟩ ⟨H46, (show (k30 + 1) ≤ p0.xkids.ls.length ∧ node_stem_check_L0 p0 p0.xkids.ls = node_stem_check_L0 p0 (List.drop (k30 + 1) p0.xkids.ls) from ⟨by omega, Eq.trans (hq36) (Eq.trans (congrArg (fun q => node_stem_check_L0 p0 q) hd41) (Eq.trans (if_neg h42) (if_neg h44)))⟩)⟩ (by show p0.xkids.ls.length - (k30 + 1) < p0.xkids.ls.length - k30; omega)
  refine Wp.cond0 rfl (decide_eq_false h38) (Wp.exit (Fin.thenX ?_))
  have hL47 : node_stem_check_L0 p0 p0.xkids.ls = Sum.inl () := Eq.trans (hq36) (Eq.trans (congrArg (fun q => node_stem_check_L0 p0 q) (drop_end (ls := p0.xkids.ls) (i := k30) (by omega))) rfl)
  refine Fin.thenX (Fin.blockX (Fin.then (Wp.seq (Wp.seq (Wp.region (Kn (v := .pointer (some ⟨g21, 1, none⟩)) rfl rfl rfl (fun _ => by kernel_rfl) (WL.val (v := .slice A0x1 p0.xpivots.ls.length c0x1) rfl (Yl.load rfl (Lds.one Tryz.isAgg24 (Cls.of (H34.cls (i := 0) rfl) rfl))) (Kn (v := .int .i64 ((p0.xpivots.ls.length : Nat) : Int)) rfl rfl rfl (fun _ => by kernel_rfl) (Mv rfl rfl (WL.nil (Fin.then (Wp.block ?_))))))))))))
  have H50 := H34.pick [0] (by decide) rfl
  refine Wp.loop (ι := Nat) (fun i => [(2, .int .i64 0), (60, .int .i64 ((i : Nat) : Int)), (59, .int .i64 ((p0.xpivots.ls.length : Nat) : Int)), (58, .slice A0x1 p0.xpivots.ls.length c0x1), (1, .pointer (some ⟨g21, 0, none⟩))]) (fun (i : Nat) w' => Own w D w' [blk g21 [.slice A0x0 p0.xkids.ls.length c0x0, .slice A0x1 p0.xpivots.ls.length c0x1, .slice A0x2 p0.xbuffers.ls.length c0x2] 76] ∧ (i ≤ p0.xpivots.ls.length ∧ node_stem_check_L1 p0 p0.xpivots.ls 0 = node_stem_check_L1 p0 (List.drop i p0.xpivots.ls) i)) (fun i => p0.xpivots.ls.length - i) 0 ⟨rfl, rfl, rfl, rfl, rfl, trivial⟩ ⟨H50, (show 0 ≤ p0.xpivots.ls.length ∧ node_stem_check_L1 p0 p0.xpivots.ls 0 = node_stem_check_L1 p0 (List.drop 0 p0.xpivots.ls) 0 from ⟨by omega, rfl⟩)⟩ ?_
  rintro k48 w51 ⟨H52, hf53⟩
  show Wp _ _ _ [(2, .int .i64 0), (60, .int .i64 ((k48 : Nat) : Int)), (59, .int .i64 ((p0.xpivots.ls.length : Nat) : Int)), (58, .slice A0x1 p0.xpivots.ls.length c0x1), (1, .pointer (some ⟨g21, 0, none⟩))] _ _
  replace hf53 : k48 ≤ p0.xpivots.ls.length ∧ node_stem_check_L1 p0 p0.xpivots.ls 0 = node_stem_check_L1 p0 (List.drop k48 p0.xpivots.ls) k48 := hf53
  obtain ⟨hi55, hq54⟩ := hf53
  refine Wp.seq (Wp.region (Kn (v := .bool (decide (((k48 : Nat) : Int) < ((p0.xpivots.ls.length : Nat) : Int)))) rfl rfl rfl (fun _ => by kernel_rfl) (WL.nil (Fin.then (Wp.seq ?_)))))
  by_cases h56 : ((k48 : Nat) : Int) < ((p0.xpivots.ls.length : Nat) : Int)
  obtain ⟨x57, hx58⟩ := rds_at (ls := p0.xpivots.ls) (i := k48) eS_len (by decide) (H52.ro hx0x1) (by first | omega | (simp; done) | (simp; omega))
  have hd59 := drop_at hx58
  refine Wp.cond1 rfl (decide_eq_true h56) (Wp.skip (Fin.then (Wp.seq (Wp.block (Wp.seq (Wp.region (Mv rfl rfl (WL.val (v := .pointer (some ⟨ab A0x1, ao A0x1 + k48 * 1, none⟩)) rfl (Yl.indexAddr (El24) rfl rfl ((H52.ro hx0x1).addr (i := k48) (by omega)) (by omega)) (WL.val (v := .string ⟨List.toArray x57⟩) rfl (Yl.load rfl (Lds.one Tryz.isAgg9 (((H52.ro hx0x1).elem eS_len hx58 (by decide)).at_ (k := 0) rfl))) (As rfl rfl (As rfl rfl (WL.nil (Fin.then (Wp.seq (Wp.region (Mv rfl rfl ?_))))))))))))))))
  obtain ⟨r65, hr66⟩ : ∃ q, span_CheckKey x57 = q := ⟨_, rfl⟩
  obtain ⟨D60, HP61, ro62, bk63, rr64⟩ := Own.enter0 H52
  refine WL.do rfl (Do.call Tryz.call59 rfl (span_CheckKey_ok _ _ x57 r65 HP61 hr66) ?_)
  rintro _ w67 ⟨rfl, HQ68, hk70⟩
  have H69 := bk63 _ _ HQ68
  replace hk70 : ¬ (r65 = 0) ∨ (1 ≤ x57.length ∧ x57.length ≤ 12) := hk70
  refine WL.val (v := .bool (decide (¬ (r65 = 0)))) rfl (Yl.bool (e := !(decide (r65 = 0))) (Yl.kern rfl rfl (fun _ => by kernel_rfl)) decide_not.symm) (Mv rfl rfl ?_)
  by_cases h71 : r65 = 0
  refine WL.valG (v := .int .i64 ((k48 : Nat) : Int)) rfl rfl (decide_eq_false (not_not_intro h71)) rfl (Yl.move rfl) (WL.valG (v := .bool (decide (((k48 : Nat) : Int) > 0))) rfl rfl (decide_eq_false (not_not_intro h71)) rfl (Yl.kern rfl rfl (fun _ => by kernel_rfl)) (WL.valG (v := .bool (decide (((k48 : Nat) : Int) > 0))) rfl rfl (decide_eq_false (not_not_intro h71)) rfl (Yl.move rfl) ?_))
  by_cases h72 : ((k48 : Nat) : Int) > 0
  refine WL.valG (v := .string ⟨List.toArray x57⟩) rfl rfl (decide_eq_true h72) rfl (Yl.move rfl) (WL.valG (v := .pointer (some ⟨g21, 1, none⟩)) rfl rfl (decide_eq_true h72) rfl (Yl.kern rfl rfl (fun _ => by kernel_rfl)) (WL.valG (v := .slice A0x1 p0.xpivots.ls.length c0x1) rfl rfl (decide_eq_true h72) rfl (Yl.load rfl (Lds.one Tryz.isAgg24 (Cls.of (H69.cls (i := 0) rfl) rfl))) (WL.valG (v := .int .i64 ((k48 : Nat) : Int)) rfl rfl (decide_eq_true h72) rfl (Yl.move rfl) (WL.valG (v := .int .i64 ((k48 - 1 : Nat) : Int)) rfl rfl (decide_eq_true h72) rfl (Yl.int (e := IntKind.i64.wrap (((k48 : Nat) : Int) - 1)) (Yl.kern rfl rfl (fun _ => by kernel_rfl)) (by rw [IntWalk.i64_in _ (by omega)]; omega)) ?_))))
  obtain ⟨x73, hx74⟩ := rds_at (ls := p0.xpivots.ls) (i := k48 - 1) eS_len (by decide) (H69.ro hx0x1) (by first | omega | (simp; done) | (simp; omega))
  refine WL.valG (v := .pointer (some ⟨ab A0x1, ao A0x1 + (k48 - 1) * 1, none⟩)) rfl rfl (decide_eq_true h72) rfl (Yl.indexAddr (El24) rfl rfl ((H69.ro hx0x1).addr (i := k48 - 1) (by omega)) (by omega)) (WL.valG (v := .string ⟨List.toArray x73⟩) rfl rfl (decide_eq_true h72) rfl (Yl.load rfl (Lds.one Tryz.isAgg9 (((H69.ro hx0x1).elem eS_len hx74 (by decide)).at_ (k := 0) rfl))) (WL.valG (v := .bool (decide (x57 ≤ x73))) rfl rfl (decide_eq_true h72) rfl (Yl.bool (e := Op.bytesLess x57 x73 || decide (x57 = x73)) (Yl.strLe rfl rfl) (bl_le _ _)) (WL.valG (v := .bool (decide (x57 ≤ x73))) rfl rfl (decide_eq_false (not_not_intro h71)) rfl (Yl.pickT rfl (decide_eq_true h72) rfl) (WL.val (v := .bool (decide (x57 ≤ x73))) rfl (Yl.pickF rfl (decide_eq_false (not_not_intro h71)) rfl) (WL.nil (Fin.then ?_))))))
  by_cases h75 : x57 ≤ x73
  refine Wp.cond1 rfl (decide_eq_true h75) (Wp.seq (Wp.region (As rfl rfl (WL.nil (Fin.then (Wp.ret (Fin.blockR (Fin.thenR (Fin.thenR (Fin.blockR (Fin.thenR (Fin.res (res1 rfl rfl) ?_))))))))))))
  have H76 := H69.pick [] (by decide) rfl
  have e : node_stem_check p0 = 130 := Eq.trans (if_neg h24) (Eq.trans (if_neg h26) (Eq.trans (if_pos h28) (Eq.trans (if_pos h29) (Eq.trans (lp_l hL47) (lp_r (Eq.trans (hq54) (Eq.trans (congrArg (fun q => node_stem_check_L1 p0 q k48) hd59) (Eq.trans (bnd_of hr66) (Eq.trans (if_pos h71) (Eq.trans (if_pos h72) (Eq.trans (bnd_of (getD_of hx74)) (if_pos h75))))))))))))
  obtain rfl := e.symm.trans hr
  exact ⟨rfl, H76, (by omega)⟩
  refine Wp.cond0 rfl (decide_eq_false h75) (Wp.skip (Fin.blockN (Fin.then (Wp.region (WL.val (v := .int .i64 ((k48 + 1 : Nat) : Int)) rfl (Yl.int (e := IntKind.i64.wrap (((k48 : Nat) : Int) + 1)) (Yl.kern rfl rfl (fun _ => by kernel_rfl)) (by rw [IntWalk.i64_in _ (by omega)]; omega)) (Mv rfl rfl (WL.nil ?_)))))))
  have H77 := H69.pick [0] (by decide) rfl
  exact Fin.round (k48 + 1) ⟨rfl, rfl, rfl, rfl, rfl, trivial⟩ ⟨H77, (show (k48 + 1) ≤ p0.xpivots.ls.length ∧ node_stem_check_L1 p0 p0.xpivots.ls 0 = node_stem_check_L1 p0 (List.drop (k48 + 1) p0.xpivots.ls) (k48 + 1) from ⟨by omega, Eq.trans (hq54) (Eq.trans (congrArg (fun q => node_stem_check_L1 p0 q k48) hd59) (Eq.trans (bnd_of hr66) (Eq.trans (if_pos h71) (Eq.trans (if_pos h72) (Eq.trans (bnd_of (getD_of hx74)) (if_neg h75))))))⟩)⟩ (by show p0.xpivots.ls.length - (k48 + 1) < p0.xpivots.ls.length - k48; omega)
  refine Sk rfl rfl (decide_eq_false h72) rfl (Sk rfl rfl (decide_eq_false h72) rfl (Sk rfl rfl (decide_eq_false h72) rfl (Sk rfl rfl (decide_eq_false h72) rfl (Sk rfl rfl (decide_eq_false h72) rfl (Sk rfl rfl (decide_eq_false h72) rfl (Sk rfl rfl (decide_eq_false h72) rfl (Sk rfl rfl (decide_eq_false h72) rfl (WL.valG (v := .bool false) rfl rfl (decide_eq_false (not_not_intro h71)) rfl (Yl.pickF rfl (decide_eq_false h72) rfl) (WL.val (v := .bool false) rfl (Yl.pickF rfl (decide_eq_false (not_not_intro h71)) rfl) (WL.nil (Fin.then (Wp.cond0 rfl rfl (Wp.skip (Fin.blockN (Fin.then (Wp.region (WL.val (v := .int .i64 ((k48 + 1 : Nat) : Int)) rfl (Yl.int (e := IntKind.i64.wrap (((k48 : Nat) : Int) + 1)) (Yl.kern rfl rfl (fun _ => by kernel_rfl)) (by rw [IntWalk.i64_in _ (by omega)]; omega)) (Mv rfl rfl (WL.nil ?_)))))))))))))))))))
  have H78 := H69.pick [0] (by decide) rfl
  exact Fin.round (k48 + 1) ⟨rfl, rfl, rfl, rfl, rfl, trivial⟩ ⟨H78, (show (k48 + 1) ≤ p0.xpivots.ls.length ∧ node_stem_check_L1 p0 p0.xpivots.ls 0 = node_stem_check_L1 p0 (List.drop (k48 + 1) p0.xpivots.ls) (k48 + 1) from ⟨by omega, Eq.trans (hq54) (Eq.trans (congrArg (fun q => node_stem_check_L1 p0 q k48) hd59) (Eq.trans (bnd_of hr66) (Eq.trans (if_pos h71) (if_neg h72))))⟩)⟩ (by show p0.xpivots.ls.length - (k48 + 1) < p0.xpivots.ls.length - k48; omega)
  refine Sk rfl rfl (decide_eq_true h71) rfl (Sk rfl rfl (decide_eq_true h71) rfl (Sk rfl rfl (decide_eq_true h71) rfl (WL.skipU rfl rfl rfl (WL.skipU rfl rfl rfl (WL.skipU rfl rfl rfl (WL.skipU rfl rfl rfl (WL.skipU rfl rfl rfl (WL.skipU rfl rfl rfl (WL.skipU rfl rfl rfl (WL.skipU rfl rfl rfl (Sk rfl rfl (decide_eq_true h71) rfl (WL.val (v := .bool true) rfl (Yl.pickT rfl (decide_eq_true h71) rfl) (WL.nil (Fin.then (Wp.cond1 rfl rfl (Wp.seq (Wp.region (As rfl rfl (WL.nil (Fin.then (Wp.ret (Fin.blockR (Fin.thenR (Fin.thenR (Fin.blockR (Fin.thenR (Fin.res (res1 rfl rfl) ?_)))))))))))))))))))))))))))
  have H79 := H69.pick [] (by decide) rfl
  have e : node_stem_check p0 = 130 := Eq.trans (if_neg h24) (Eq.trans (if_neg h26) (Eq.trans (if_pos h28) (Eq.trans (if_pos h29) (Eq.trans (lp_l hL47) (lp_r (Eq.trans (hq54) (Eq.trans (congrArg (fun q => node_stem_check_L1 p0 q k48) hd59) (Eq.trans (bnd_of hr66) (if_neg h71)))))))))
  obtain rfl := e.symm.trans hr
  exact ⟨rfl, H79, (by omega)⟩
  refine Wp.cond0 rfl (decide_eq_false h56) (Wp.exit (Fin.thenX ?_))
  have hL80 : node_stem_check_L1 p0 p0.xpivots.ls 0 = Sum.inl () := Eq.trans (hq54) (Eq.trans (congrArg (fun q => node_stem_check_L1 p0 q k48) (drop_end (ls := p0.xpivots.ls) (i := k48) (by omega))) rfl)
  refine Fin.thenX (Fin.blockX (Fin.then (Wp.seq (Wp.seq (Wp.region (Kn (v := .pointer (some ⟨g21, 2, none⟩)) rfl rfl rfl (fun _ => by kernel_rfl) (WL.val (v := .slice A0x2 p0.xbuffers.ls.length c0x2) rfl (Yl.load rfl (Lds.one Tryz.isAgg25 (Cls.of (H52.cls (i := 0) rfl) rfl))) (Kn (v := .int .i64 ((p0.xbuffers.ls.length : Nat) : Int)) rfl rfl rfl (fun _ => by kernel_rfl) (Mv rfl rfl (WL.nil (Fin.then (Wp.block ?_))))))))))))
  have H83 := H52.pick [0] (by decide) rfl
  refine Wp.loop (ι := Nat) (fun i => [(2, .int .i64 0), (86, .int .i64 ((i : Nat) : Int)), (85, .int .i64 ((p0.xbuffers.ls.length : Nat) : Int)), (84, .slice A0x2 p0.xbuffers.ls.length c0x2), (1, .pointer (some ⟨g21, 0, none⟩))]) (fun (i : Nat) w' => Own w D w' [blk g21 [.slice A0x0 p0.xkids.ls.length c0x0, .slice A0x1 p0.xpivots.ls.length c0x1, .slice A0x2 p0.xbuffers.ls.length c0x2] 76] ∧ (i ≤ p0.xbuffers.ls.length ∧ node_stem_check_L2 p0 p0.xbuffers.ls = node_stem_check_L2 p0 (List.drop i p0.xbuffers.ls))) (fun i => p0.xbuffers.ls.length - i) 0 ⟨rfl, rfl, rfl, rfl, rfl, trivial⟩ ⟨H83, (show 0 ≤ p0.xbuffers.ls.length ∧ node_stem_check_L2 p0 p0.xbuffers.ls = node_stem_check_L2 p0 (List.drop 0 p0.xbuffers.ls) from ⟨by omega, rfl⟩)⟩ ?_
  rintro k81 w84 ⟨H85, hf86⟩
  show Wp _ _ _ [(2, .int .i64 0), (86, .int .i64 ((k81 : Nat) : Int)), (85, .int .i64 ((p0.xbuffers.ls.length : Nat) : Int)), (84, .slice A0x2 p0.xbuffers.ls.length c0x2), (1, .pointer (some ⟨g21, 0, none⟩))] _ _
  replace hf86 : k81 ≤ p0.xbuffers.ls.length ∧ node_stem_check_L2 p0 p0.xbuffers.ls = node_stem_check_L2 p0 (List.drop k81 p0.xbuffers.ls) := hf86
  obtain ⟨hi88, hq87⟩ := hf86
  refine Wp.seq (Wp.region (Kn (v := .bool (decide (((k81 : Nat) : Int) < ((p0.xbuffers.ls.length : Nat) : Int)))) rfl rfl rfl (fun _ => by kernel_rfl) (WL.nil (Fin.then (Wp.seq ?_)))))
  by_cases h89 : ((k81 : Nat) : Int) < ((p0.xbuffers.ls.length : Nat) : Int)
  obtain ⟨x90, hx91⟩ := rds_at (ls := d0x2) (i := k81) svLen (by decide) (H85.ro hx0x2) (by first | omega | (simp; done) | (simp; omega))
  have hX92 := abs_at hd0x2 hx91
  have hb93 := (hm0x2 _ (List.mem_of_getElem? hx91)).2
  have hd94 := drop_at hX92
  refine Wp.cond1 rfl (decide_eq_true h89) (Wp.skip (Fin.then (Wp.seq (Wp.block (Wp.seq (Wp.region (WL.val (v := .pointer (some ⟨ab A0x2, ao A0x2 + k81 * 1, none⟩)) rfl (Yl.indexAddr (El25) rfl rfl ((H85.ro hx0x2).addr (i := k81) (by omega)) (by omega)) (WL.val (v := .slice x90.A x90.ls.length x90.c) rfl (Yl.load rfl (Lds.one Tryz.isAgg46 (((H85.ro hx0x2).elem svLen hx91 (by decide)).at_ (k := 0) rfl))) (As rfl rfl (WL.nil (Fin.then (Wp.seq (Wp.region (Mv rfl rfl ?_))))))))))))))
  obtain ⟨r100, hr101⟩ : ∃ q, buffer_Check x90.ls = q := ⟨_, rfl⟩
  obtain ⟨D95, HP96, ro97, bk98, rr99⟩ := Own.enter0 H85
  refine WL.do rfl (Do.call Tryz.call61 rfl (buffer_Check_ok _ _ x90.A x90.ls.length x90.c x90.ls r100 HP96 (ro97 _ (hm0x2 _ (List.mem_of_getElem? hx91)).1) rfl (by omega) hr101) ?_)
  rintro _ w102 ⟨rfl, HQ103⟩
  have H104 := bk98 _ _ HQ103
  refine As rfl rfl (WL.nil (Fin.then (Wp.seq (Wp.region (Mv rfl rfl (WL.val (v := .bool (decide (¬ (r100 = 0)))) rfl (Yl.bool (e := !(decide (r100 = 0))) (Yl.kern rfl rfl (fun _ => by kernel_rfl)) decide_not.symm) (WL.nil (Fin.then ?_))))))))
  by_cases h105 : r100 = 0
  refine Wp.cond0 rfl (decide_eq_false (not_not_intro h105)) (Wp.skip (Fin.blockN (Fin.then (Wp.region (WL.val (v := .int .i64 ((k81 + 1 : Nat) : Int)) rfl (Yl.int (e := IntKind.i64.wrap (((k81 : Nat) : Int) + 1)) (Yl.kern rfl rfl (fun _ => by kernel_rfl)) (by rw [IntWalk.i64_in _ (by omega)]; omega)) (Mv rfl rfl (WL.nil ?_)))))))
  have H106 := H104.pick [0] (by decide) rfl
  exact Fin.round (k81 + 1) ⟨rfl, rfl, rfl, rfl, rfl, trivial⟩ ⟨H106, (show (k81 + 1) ≤ p0.xbuffers.ls.length ∧ node_stem_check_L2 p0 p0.xbuffers.ls = node_stem_check_L2 p0 (List.drop (k81 + 1) p0.xbuffers.ls) from ⟨by omega, Eq.trans (hq87) (Eq.trans (congrArg (fun q => node_stem_check_L2 p0 q) hd94) (Eq.trans (bnd_of hr101) (if_pos h105)))⟩)⟩ (by show p0.xbuffers.ls.length - (k81 + 1) < p0.xbuffers.ls.length - k81; omega)
  refine Wp.cond1 rfl (decide_eq_true h105) (Wp.seq (Wp.region (Mv rfl rfl (As rfl rfl (WL.nil (Fin.then (Wp.ret (Fin.blockR (Fin.thenR (Fin.thenR (Fin.blockR (Fin.thenR (Fin.res (res1 rfl rfl) ?_)))))))))))))
  have H107 := H104.pick [] (by decide) rfl
  have e : node_stem_check p0 = r100 := Eq.trans (if_neg h24) (Eq.trans (if_neg h26) (Eq.trans (if_pos h28) (Eq.trans (if_pos h29) (Eq.trans (lp_l hL47) (Eq.trans (lp_l hL80) (lp_r (Eq.trans (hq87) (Eq.trans (congrArg (fun q => node_stem_check_L2 p0 q) hd94) (Eq.trans (bnd_of hr101) (if_neg h105))))))))))
  obtain rfl := e.symm.trans hr
  exact ⟨rfl, H107, (by omega)⟩
  refine Wp.cond0 rfl (decide_eq_false h89) (Wp.exit (Fin.thenX ?_))
  have hL108 : node_stem_check_L2 p0 p0.xbuffers.ls = Sum.inl () := Eq.trans (hq87) (Eq.trans (congrArg (fun q => node_stem_check_L2 p0 q) (drop_end (ls := p0.xbuffers.ls) (i := k81) (by omega))) rfl)
  refine Fin.thenX (Fin.blockX (Fin.then (Wp.seq (Wp.seq (Wp.region (Kn (v := .pointer (some ⟨g21, 2, none⟩)) rfl rfl rfl (fun _ => by kernel_rfl) (WL.val (v := .slice A0x2 p0.xbuffers.ls.length c0x2) rfl (Yl.load rfl (Lds.one Tryz.isAgg25 (Cls.of (H85.cls (i := 0) rfl) rfl))) (Kn (v := .int .i64 ((p0.xbuffers.ls.length : Nat) : Int)) rfl rfl rfl (fun _ => by kernel_rfl) (Mv rfl rfl (WL.nil (Fin.then (Wp.block ?_))))))))))))
  have H111 := H85.pick [0] (by decide) rfl
  refine Wp.loop (ι := Nat) (fun i => [(2, .int .i64 0), (99, .int .i64 ((i : Nat) : Int)), (98, .int .i64 ((p0.xbuffers.ls.length : Nat) : Int)), (97, .slice A0x2 p0.xbuffers.ls.length c0x2), (1, .pointer (some ⟨g21, 0, none⟩))]) (fun (i : Nat) w' => Own w D w' [blk g21 [.slice A0x0 p0.xkids.ls.length c0x0, .slice A0x1 p0.xpivots.ls.length c0x1, .slice A0x2 p0.xbuffers.ls.length c0x2] 76] ∧ (i ≤ p0.xbuffers.ls.length ∧ node_stem_check_L3 p0 p0.xbuffers.ls 0 = node_stem_check_L3 p0 (List.drop i p0.xbuffers.ls) i)) (fun i => p0.xbuffers.ls.length - i) 0 ⟨rfl, rfl, rfl, rfl, rfl, trivial⟩ ⟨H111, (show 0 ≤ p0.xbuffers.ls.length ∧ node_stem_check_L3 p0 p0.xbuffers.ls 0 = node_stem_check_L3 p0 (List.drop 0 p0.xbuffers.ls) 0 from ⟨by omega, rfl⟩)⟩ ?_
  rintro k109 w112 ⟨H113, hf114⟩
  show Wp _ _ _ [(2, .int .i64 0), (99, .int .i64 ((k109 : Nat) : Int)), (98, .int .i64 ((p0.xbuffers.ls.length : Nat) : Int)), (97, .slice A0x2 p0.xbuffers.ls.length c0x2), (1, .pointer (some ⟨g21, 0, none⟩))] _ _
  replace hf114 : k109 ≤ p0.xbuffers.ls.length ∧ node_stem_check_L3 p0 p0.xbuffers.ls 0 = node_stem_check_L3 p0 (List.drop k109 p0.xbuffers.ls) k109 := hf114
  obtain ⟨hi116, hq115⟩ := hf114
  refine Wp.seq (Wp.region (Kn (v := .bool (decide (((k109 : Nat) : Int) < ((p0.xbuffers.ls.length : Nat) : Int)))) rfl rfl rfl (fun _ => by kernel_rfl) (WL.nil (Fin.then (Wp.seq ?_)))))
  by_cases h117 : ((k109 : Nat) : Int) < ((p0.xbuffers.ls.length : Nat) : Int)
  obtain ⟨x118, hx119⟩ := rds_at (ls := d0x2) (i := k109) svLen (by decide) (H113.ro hx0x2) (by first | omega | (simp; done) | (simp; omega))
  have hX120 := abs_at hd0x2 hx119
  have hb121 := (hm0x2 _ (List.mem_of_getElem? hx119)).2
  have hd122 := drop_at hX120
  refine Wp.cond1 rfl (decide_eq_true h117) (Wp.skip (Fin.then (Wp.seq (Wp.block (Wp.seq (Wp.region (Mv rfl rfl (WL.val (v := .pointer (some ⟨ab A0x2, ao A0x2 + k109 * 1, none⟩)) rfl (Yl.indexAddr (El25) rfl rfl ((H113.ro hx0x2).addr (i := k109) (by omega)) (by omega)) (WL.val (v := .slice x118.A x118.ls.length x118.c) rfl (Yl.load rfl (Lds.one Tryz.isAgg46 (((H113.ro hx0x2).elem svLen hx119 (by decide)).at_ (k := 0) rfl))) (As rfl rfl (As rfl rfl (WL.nil (Fin.then (Wp.seq (Wp.region (Mv rfl rfl (Kn (v := .int .i64 ((x118.ls.length : Nat) : Int)) rfl rfl rfl (fun _ => by kernel_rfl) (Mv rfl rfl (WL.nil (Fin.then (Wp.block ?_)))))))))))))))))))))
  have H125 := H113.pick [0] (by decide) rfl
  refine Wp.loop (ι := Nat) (fun i => [(2, .int .i64 0), (106, .int .i64 ((i : Nat) : Int)), (105, .int .i64 ((x118.ls.length : Nat) : Int)), (104, .slice x118.A x118.ls.length x118.c), (11, .slice x118.A x118.ls.length x118.c), (10, .int .i64 ((k109 : Nat) : Int)), (103, .slice x118.A x118.ls.length x118.c), (102, .pointer (some ⟨ab A0x2, ao A0x2 + k109 * 1, none⟩)), (101, .int .i64 ((k109 : Nat) : Int)), (100, .bool (decide (((k109 : Nat) : Int) < ((p0.xbuffers.ls.length : Nat) : Int)))), (99, .int .i64 ((k109 : Nat) : Int)), (98, .int .i64 ((p0.xbuffers.ls.length : Nat) : Int)), (97, .slice A0x2 p0.xbuffers.ls.length c0x2), (1, .pointer (some ⟨g21, 0, none⟩))]) (fun (i : Nat) w' => Own w D w' [blk g21 [.slice A0x0 p0.xkids.ls.length c0x0, .slice A0x1 p0.xpivots.ls.length c0x1, .slice A0x2 p0.xbuffers.ls.length c0x2] 76] ∧ (i ≤ x118.ls.length ∧ node_stem_check_L4 p0 k109 x118.ls = node_stem_check_L4 p0 k109 (List.drop i x118.ls))) (fun i => x118.ls.length - i) 0 ⟨rfl, rfl, rfl, rfl, rfl, rfl, rfl, rfl, rfl, rfl, rfl, rfl, rfl, rfl, trivial⟩ ⟨H125, (show 0 ≤ x118.ls.length ∧ node_stem_check_L4 p0 k109 x118.ls = node_stem_check_L4 p0 k109 (List.drop 0 x118.ls) from ⟨by omega, rfl⟩)⟩ ?_
  rintro k123 w126 ⟨H127, hf128⟩
  show Wp _ _ _ [(2, .int .i64 0), (106, .int .i64 ((k123 : Nat) : Int)), (105, .int .i64 ((x118.ls.length : Nat) : Int)), (104, .slice x118.A x118.ls.length x118.c), (11, .slice x118.A x118.ls.length x118.c), (10, .int .i64 ((k109 : Nat) : Int)), (103, .slice x118.A x118.ls.length x118.c), (102, .pointer (some ⟨ab A0x2, ao A0x2 + k109 * 1, none⟩)), (101, .int .i64 ((k109 : Nat) : Int)), (100, .bool (decide (((k109 : Nat) : Int) < ((p0.xbuffers.ls.length : Nat) : Int)))), (99, .int .i64 ((k109 : Nat) : Int)), (98, .int .i64 ((p0.xbuffers.ls.length : Nat) : Int)), (97, .slice A0x2 p0.xbuffers.ls.length c0x2), (1, .pointer (some ⟨g21, 0, none⟩))] _ _
  replace hf128 : k123 ≤ x118.ls.length ∧ node_stem_check_L4 p0 k109 x118.ls = node_stem_check_L4 p0 k109 (List.drop k123 x118.ls) := hf128
  obtain ⟨hi130, hq129⟩ := hf128
  refine Wp.seq (Wp.region (Kn (v := .bool (decide (((k123 : Nat) : Int) < ((x118.ls.length : Nat) : Int)))) rfl rfl rfl (fun _ => by kernel_rfl) (WL.nil (Fin.then (Wp.seq ?_)))))
  by_cases h131 : ((k123 : Nat) : Int) < ((x118.ls.length : Nat) : Int)
  obtain ⟨x132, hx133⟩ := rds_at (ls := x118.ls) (i := k123) EntryD.len (by decide) (H127.ro (hm0x2 _ (List.mem_of_getElem? hx119)).1) (by first | omega | (simp; done) | (simp; omega))
  have hd134 := drop_at hx133
  refine Wp.cond1 rfl (decide_eq_true h131) (Wp.skip (Fin.then (Wp.seq (Wp.block (Wp.seq (Wp.region (WL.val (v := .pointer (some ⟨ab x118.A, ao x118.A + k123 * 7, none⟩)) rfl (Yl.indexAddr (El46) rfl rfl ((H127.ro (hm0x2 _ (List.mem_of_getElem? hx119)).1).addr (i := k123) (by omega)) (by omega)) (WL.val (v := .agg (EntryD.cells x132).toArray) rfl (Yl.load rfl (Lds.agg (cs := (EntryD.cells x132)) Tryz.isAgg61 Tryz.sizeOf61 ((H127.ro (hm0x2 _ (List.mem_of_getElem? hx119)).1).elem EntryD.len hx133 (by decide)))) ?_))))))))
  refine WL.do rfl (Do.newP (cs := [.int .u64 0, .int .i64 0, .string ⟨List.toArray ([])⟩, .string ⟨List.toArray ([])⟩, .string ⟨List.toArray ([])⟩, .string ⟨List.toArray ([])⟩, .int .i64 0]) (t := 61) H127 rfl rfl (fun _ => by kernel_rfl) ?_)
  intro g135 w136 H137
  refine WL.do0 (Do.store (vs := (EntryD.cells x132)) (o := 0) H137 rfl rfl Tryz.sizeOf61 rfl rfl rfl rfl ?_)
  intro w138 H139
  refine WL.nil (Fin.then (Wp.seq ?_))
  have H141 := H139.drew
  refine Wp.drawnX [] (fun W => ∃ L', Own w D W ([blk g135 (EntryD.cells x132) 61, blk g21 [.slice A0x0 p0.xkids.ls.length c0x0, .slice A0x1 p0.xpivots.ls.length c0x1, .slice A0x2 p0.xbuffers.ls.length c0x2] 76] ++ L')) (by kernel_rfl) (by kernel_rfl) (NoP.then (NoP.block (NoP.then (NoP.then (NoP.block (NoP.block (NoP.then (NoP.then (NoP.block (NoP.then NoP.base)))))))))) ⟨_, H141⟩ ?_
  revert H141
  generalize World.drew w138 = w140
  intro H141
  refine GX.take (v := .agg #[.slice A0x0 p0.xkids.ls.length c0x0, .slice A0x1 p0.xpivots.ls.length c0x1, .slice A0x2 p0.xbuffers.ls.length c0x2]) (rs := []) 0 rfl (by kernel_rfl) (fun _ ⟨_, H9⟩ => Yl.load rfl (Lds.agg (cs := [.slice A0x0 p0.xkids.ls.length c0x0, .slice A0x1 p0.xpivots.ls.length c0x1, .slice A0x2 p0.xbuffers.ls.length c0x2]) Tryz.isAgg76 Tryz.sizeOf76 ((H9.cls (i := 1) rfl).lit (k := 0) (m := 3) rfl))) (GX.take (v := .int .i64 ((k109 : Nat) : Int)) (rs := []) 1 rfl (by kernel_rfl) (fun _ _ => Yl.move rfl) (GX.take (v := .pointer (some ⟨g135, 1, none⟩)) (rs := []) 3 rfl (by kernel_rfl) (fun _ _ => Yl.kern rfl rfl (fun _ => by kernel_rfl)) (GX.take (v := .agg (OpD.cells x132.xOp).toArray) (rs := []) 4 rfl (by kernel_rfl) (fun _ ⟨_, H9⟩ => Yl.load rfl (Lds.agg (cs := (OpD.cells x132.xOp)) Tryz.isAgg59 Tryz.sizeOf59 ((H9.cls (i := 0) rfl).lit (k := 1) (m := 6) rfl))) ?_)))
  obtain ⟨r147, hr148⟩ : ∃ q, node_stem_rangeOf p0 ((k109 : Nat) : Int) = q := ⟨_, rfl⟩
  obtain ⟨D142, HP143, ro144, bk145, rr146⟩ := Own.enter0 H141
  refine GX.do 2 rfl (by kernel_rfl) (Do.call Tryz.call63 rfl (node_stem_rangeOf_ok _ _ p0 A0x0 p0.xkids.ls.length c0x0 A0x1 p0.xpivots.ls.length c0x1 A0x2 p0.xbuffers.ls.length c0x2 d0x2 ((k109 : Nat) : Int) r147 HP143 rfl (ro144 _ hx0x0) (by first | exact ⟨Nat.le_of_ble_eq_true rfl, Nat.le_of_ble_eq_true rfl⟩ | omega | exact ⟨Nat.le_refl _, by omega⟩) rfl (ro144 _ hx0x1) (by first | exact ⟨Nat.le_of_ble_eq_true rfl, Nat.le_of_ble_eq_true rfl⟩ | omega | exact ⟨Nat.le_refl _, by omega⟩) hd0x2 rfl (ro144 _ hx0x2) (by first | exact ⟨Nat.le_of_ble_eq_true rfl, Nat.le_of_ble_eq_true rfl⟩ | omega | exact ⟨Nat.le_refl _, by omega⟩) (fun x9 h9 => ⟨ro144 _ (hm0x2 x9 h9).1, (hm0x2 x9 h9).2⟩) (by omega) hr148) ?_)
  rintro _ w149 ⟨rfl, HQ150⟩
  have H151 := bk145 _ _ HQ150
  refine ⟨.inr ⟨_, H151⟩, ?_⟩
  obtain ⟨r157, hr158⟩ : ∃ q, node_within r147 x132.xOp = q := ⟨_, rfl⟩
  obtain ⟨D152, HP153, ro154, bk155, rr156⟩ := Own.enter0 H151
  refine GX.do 5 rfl (by kernel_rfl) (Do.call Tryz.call62 rfl (node_within_ok _ _ r147 x132.xOp r157 HP153 hr158) ?_)
  rintro _ w159 ⟨rfl, HQ160⟩
  have H161 := bk155 _ _ HQ160
  refine ⟨.inr ⟨_, H161⟩, ?_⟩
  refine GX.take (v := .bool (!r157)) (rs := []) 6 rfl (by kernel_rfl) (fun _ _ => Yl.kern rfl rfl (fun _ => by kernel_rfl)) (GX.done (by kernel_rfl) (Fin.then ?_))
  rcases Bool.eq_false_or_eq_true (r157) with h162 | h162
  refine Wp.cond0 rfl (congrArg not h162) (Wp.skip (Fin.blockN (Fin.then (Wp.region (WL.val (v := .int .i64 ((k123 + 1 : Nat) : Int)) rfl (Yl.int (e := IntKind.i64.wrap (((k123 : Nat) : Int) + 1)) (Yl.kern rfl rfl (fun _ => by kernel_rfl)) (by rw [IntWalk.i64_in _ (by omega)]; omega)) (Mv rfl rfl (WL.nil ?_)))))))
  have H163 := H161.pick [1] (by decide) rfl
  exact Fin.round (k123 + 1) ⟨rfl, rfl, rfl, rfl, rfl, rfl, rfl, rfl, rfl, rfl, rfl, rfl, rfl, rfl, trivial⟩ ⟨H163, (show (k123 + 1) ≤ x118.ls.length ∧ node_stem_check_L4 p0 k109 x118.ls = node_stem_check_L4 p0 k109 (List.drop (k123 + 1) x118.ls) from ⟨by omega, Eq.trans (hq129) (Eq.trans (congrArg (fun q => node_stem_check_L4 p0 k109 q) hd134) (Eq.trans (bnd_of hr148) (Eq.trans (bnd_of hr158) (if_pos h162))))⟩)⟩ (by show x118.ls.length - (k123 + 1) < x118.ls.length - k123; omega)
  refine Wp.cond1 rfl (congrArg not h162) (Wp.seq (Wp.region (As rfl rfl (WL.nil (Fin.then (Wp.ret (Fin.blockR (Fin.thenR (Fin.thenR (Fin.blockR (Fin.blockR (Fin.thenR (Fin.thenR (Fin.blockR (Fin.thenR (Fin.res (res1 rfl rfl) ?_))))))))))))))))
  have H164 := H161.pick [] (by decide) rfl
  have e : node_stem_check p0 = 130 := Eq.trans (if_neg h24) (Eq.trans (if_neg h26) (Eq.trans (if_pos h28) (Eq.trans (if_pos h29) (Eq.trans (lp_l hL47) (Eq.trans (lp_l hL80) (Eq.trans (lp_l hL108) (lp_r (Eq.trans (hq115) (Eq.trans (congrArg (fun q => node_stem_check_L3 p0 q k109) hd122) (lpS_r (Eq.trans (hq129) (Eq.trans (congrArg (fun q => node_stem_check_L4 p0 k109 q) hd134) (Eq.trans (bnd_of hr148) (Eq.trans (bnd_of hr158) (ifF h162)))))))))))))))
  obtain rfl := e.symm.trans hr
  exact ⟨rfl, H164, (by omega)⟩
  refine Wp.cond0 rfl (decide_eq_false h131) (Wp.exit (Fin.thenX ?_))
  have hL165 : node_stem_check_L4 p0 k109 x118.ls = Sum.inl () := Eq.trans (hq129) (Eq.trans (congrArg (fun q => node_stem_check_L4 p0 k109 q) (drop_end (ls := x118.ls) (i := k123) (by omega))) rfl)
  refine Fin.thenX (Fin.blockX (Fin.blockN (Fin.then (Wp.region (WL.val (v := .int .i64 ((k109 + 1 : Nat) : Int)) rfl (Yl.int (e := IntKind.i64.wrap (((k109 : Nat) : Int) + 1)) (Yl.kern rfl rfl (fun _ => by kernel_rfl)) (by rw [IntWalk.i64_in _ (by omega)]; omega)) (Mv rfl rfl (WL.nil ?_)))))))
  have H166 := H127.pick [0] (by decide) rfl
  exact Fin.round (k109 + 1) ⟨rfl, rfl, rfl, rfl, rfl, trivial⟩ ⟨H166, (show (k109 + 1) ≤ p0.xbuffers.ls.length ∧ node_stem_check_L3 p0 p0.xbuffers.ls 0 = node_stem_check_L3 p0 (List.drop (k109 + 1) p0.xbuffers.ls) (k109 + 1) from ⟨by omega, Eq.trans (hq115) (Eq.trans (congrArg (fun q => node_stem_check_L3 p0 q k109) hd122) (lpS_l hL165))⟩)⟩ (by show p0.xbuffers.ls.length - (k109 + 1) < p0.xbuffers.ls.length - k109; omega)
  refine Wp.cond0 rfl (decide_eq_false h117) (Wp.exit (Fin.thenX ?_))
  have hL167 : node_stem_check_L3 p0 p0.xbuffers.ls 0 = Sum.inl () := Eq.trans (hq115) (Eq.trans (congrArg (fun q => node_stem_check_L3 p0 q k109) (drop_end (ls := p0.xbuffers.ls) (i := k109) (by omega))) rfl)
  refine Fin.thenX (Fin.blockX (Fin.then (Wp.seq (Wp.region (As rfl rfl (WL.nil (Fin.then (Wp.ret (Fin.res (res1 rfl rfl) ?_)))))))))
  have H168 := H113.pick [] (by decide) rfl
  have e : node_stem_check p0 = 0 := Eq.trans (if_neg h24) (Eq.trans (if_neg h26) (Eq.trans (if_pos h28) (Eq.trans (if_pos h29) (Eq.trans (lp_l hL47) (Eq.trans (lp_l hL80) (Eq.trans (lp_l hL108) (lp_l hL167)))))))
  obtain rfl := e.symm.trans hr
  exact ⟨rfl, H168, (by omega)⟩
  refine Wp.cond1 rfl (decide_eq_true h29) (Wp.seq (Wp.region (As rfl rfl (WL.nil (Fin.then (Wp.ret (Fin.thenR (Fin.res (res1 rfl rfl) ?_))))))))
  have H169 := H23.pick [] (by decide) rfl
  have e : node_stem_check p0 = 130 := Eq.trans (if_neg h24) (Eq.trans (if_neg h26) (Eq.trans (if_pos h28) (if_neg h29)))
  obtain rfl := e.symm.trans hr
  exact ⟨rfl, H169, (by omega)⟩
  refine Sk rfl rfl (decide_eq_true h28) rfl (Sk rfl rfl (decide_eq_true h28) rfl (Sk rfl rfl (decide_eq_true h28) rfl (Sk rfl rfl (decide_eq_true h28) rfl (Sk rfl rfl (decide_eq_true h28) rfl (Sk rfl rfl (decide_eq_true h28) rfl (Sk rfl rfl (decide_eq_true h28) rfl (WL.val (v := .bool true) rfl (Yl.pickT rfl (decide_eq_true h28) rfl) (WL.nil (Fin.then (Wp.cond1 rfl rfl (Wp.seq (Wp.region (As rfl rfl (WL.nil (Fin.then (Wp.ret (Fin.thenR (Fin.res (res1 rfl rfl) ?_))))))))))))))))))
  have H170 := H23.pick [] (by decide) rfl
  have e : node_stem_check p0 = 130 := Eq.trans (if_neg h24) (Eq.trans (if_neg h26) (if_neg h28))
  obtain rfl := e.symm.trans hr
  exact ⟨rfl, H170, (by omega)⟩

structure NodeD where
  xLeaf : Bool
  xPairs : Sv PairD
  xKids : Sv Int
  xPivots : Sv (List UInt8)
  xBuffers : Sv (Sv EntryD)

def NodeD.cells (x : NodeD) : List Value := [.bool x.xLeaf, .slice x.xPairs.A x.xPairs.ls.length x.xPairs.c, .slice x.xKids.A x.xKids.ls.length x.xKids.c, .slice x.xPivots.A x.xPivots.ls.length x.xPivots.c, .slice x.xBuffers.A x.xBuffers.ls.length x.xBuffers.c]

instance : Bk NodeD := ⟨fun x _ => bk x.xLeaf + (bk x.xPairs + (bk x.xKids + (bk x.xPivots + (bk x.xBuffers + (0)))))⟩

theorem NodeD.len : ∀ x, (NodeD.cells x).length = 5 := fun _ => rfl

theorem NodeD.one : ∀ x, ∀ u ∈ NodeD.cells x, u.oneCell' = true := fun x u hu => by
  simp only [NodeD.cells, List.mem_cons, List.not_mem_nil, or_false] at hu
  rcases hu with rfl | rfl | rfl | rfl | rfl <;> rfl

def NodeD.Ok (w : World) (x : NodeD) : Prop := (True) ∧ (SvOk w 2 32 PairD.cells (PairD.Ok w) x.xPairs) ∧ (SvOk w 1 8 (eI .i64) (fun n => (-9223372036854775808) ≤ n ∧ n ≤ 9223372036854775807) x.xKids) ∧ (SvOk w 1 16 eS (fun s => s.length ≤ 140737488351232) x.xPivots) ∧ (SvOk w 1 24 (Sv.enc (β := EntryD)) (SvOk w 7 88 EntryD.cells (EntryD.Ok w)) x.xBuffers)

instance : Inhabited NodeD := ⟨⟨default, default, default, default, default⟩⟩

structure NodeT where
  xLeaf : Bool
  xPairs : Ll PairD
  xKids : Ll Int
  xPivots : Ll (List UInt8)
  xBuffers : Ll (Ll EntryD)

instance : Inhabited NodeT := ⟨⟨default, default, default, default, default⟩⟩

def NodeD.abs (x : NodeD) : NodeT := ⟨x.xLeaf, ⟨x.xPairs.ls⟩, ⟨x.xKids.ls⟩, ⟨x.xPivots.ls⟩, ⟨List.map Row46D.abs x.xBuffers.ls⟩⟩

def NodeD.own (x : NodeD) : List HP := [row x.xPairs.A x.xPairs.ls.length x.xPairs.c (List.flatMap PairD.cells x.xPairs.ls) 44 2, row x.xKids.A x.xKids.ls.length x.xKids.c (List.flatMap (eI .i64) x.xKids.ls) 3 1, row x.xPivots.A x.xPivots.ls.length x.xPivots.c (List.flatMap eS x.xPivots.ls) 9 1, row x.xBuffers.A x.xBuffers.ls.length x.xBuffers.c (List.flatMap (Sv.enc (β := EntryD)) x.xBuffers.ls) 46 1]

structure leafD where
  xpairs : Sv PairD

def leafD.cells (x : leafD) : List Value := [.slice x.xpairs.A x.xpairs.ls.length x.xpairs.c]

instance : Bk leafD := ⟨fun x _ => bk x.xpairs + (0)⟩

theorem leafD.len : ∀ x, (leafD.cells x).length = 1 := fun _ => rfl

theorem leafD.one : ∀ x, ∀ u ∈ leafD.cells x, u.oneCell' = true := fun x u hu => by
  simp only [leafD.cells, List.mem_cons, List.not_mem_nil, or_false] at hu
  rcases hu with rfl <;> rfl

def leafD.Ok (w : World) (x : leafD) : Prop := (SvOk w 2 32 PairD.cells (PairD.Ok w) x.xpairs)

instance : Inhabited leafD := ⟨⟨default⟩⟩

structure leafT where
  xpairs : Ll PairD

instance : Inhabited leafT := ⟨⟨default⟩⟩

def leafD.abs (x : leafD) : leafT := ⟨⟨x.xpairs.ls⟩⟩

def leafD.own (x : leafD) : List HP := [row x.xpairs.A x.xpairs.ls.length x.xpairs.c (List.flatMap PairD.cells x.xpairs.ls) 44 2]

def node_Check (p0 : NodeT) : Int :=
  if p0.xLeaf = true then if IntKind.i64.wrap ((IntKind.i64.wrap (((p0.xKids.ls.length : Nat) : Int) + ((p0.xPivots.ls.length : Nat) : Int))) + ((p0.xBuffers.ls.length : Nat) : Int)) = 0 then bnd (op_CheckMap p0.xPairs.ls) fun yr40 => yr40 else 130 else if ((p0.xPairs.ls.length : Nat) : Int) = 0 then bnd (node_stem_check (stemT.mk (Ll.mk p0.xKids.ls) (Ll.mk p0.xPivots.ls) (Ll.mk p0.xBuffers.ls))) fun yr62 => yr62 else 130

set_option maxRecDepth 100000 in
theorem node_Check_ok (w : World) (D : Nat → Prop) (p0 : NodeT) (A0x0 : Option Addr) (n0x0 c0x0 : Nat) (A0x1 : Option Addr) (n0x1 c0x1 : Nat) (A0x2 : Option Addr) (n0x2 c0x2 : Nat) (A0x3 : Option Addr) (n0x3 c0x3 : Nat) (d0x3 : List Row46D) (r0 : Int) (H : Own w D w []) (hn0x0 : n0x0 = p0.xPairs.ls.length) (hx0x0 : Ro w D fun w' => Rds w' 2 A0x0 p0.xPairs.ls.length (List.flatMap PairD.cells p0.xPairs.ls)) (hb0x0 : p0.xPairs.ls.length ≤ c0x0 ∧ p0.xPairs.ls.length ≤ 9223372036854775807) (hn0x1 : n0x1 = p0.xKids.ls.length) (hx0x1 : Ro w D fun w' => Rds w' 1 A0x1 p0.xKids.ls.length (List.flatMap (eI .i64) p0.xKids.ls)) (hb0x1 : p0.xKids.ls.length ≤ c0x1 ∧ p0.xKids.ls.length ≤ 9223372036854775807) (hn0x2 : n0x2 = p0.xPivots.ls.length) (hx0x2 : Ro w D fun w' => Rds w' 1 A0x2 p0.xPivots.ls.length (List.flatMap eS p0.xPivots.ls)) (hb0x2 : p0.xPivots.ls.length ≤ c0x2 ∧ p0.xPivots.ls.length ≤ 9223372036854775807) (hd0x3 : List.map Row46D.abs d0x3 = p0.xBuffers.ls) (hn0x3 : n0x3 = p0.xBuffers.ls.length) (hx0x3 : Ro w D fun w' => Rds w' 1 A0x3 p0.xBuffers.ls.length (List.flatMap (Sv.enc (β := EntryD)) d0x3)) (hb0x3 : p0.xBuffers.ls.length ≤ c0x3 ∧ p0.xBuffers.ls.length ≤ 9223372036854775807) (hm0x3 : ∀ x ∈ d0x3, Ro w D (fun w' => Rds w' 7 x.A x.ls.length (List.flatMap EntryD.cells x.ls)) ∧ x.ls.length ≤ 9223372036854775807) (hr : node_Check p0 = r0) :
    Calls Tryz.prog 10 #[.agg #[.bool p0.xLeaf, .slice A0x0 n0x0 c0x0, .slice A0x1 n0x1 c0x1, .slice A0x2 n0x2 c0x2, .slice A0x3 n0x3 c0x3]] w (Ret fun v w' => v = .int .i64 r0 ∧ Own w D w' []) := by
  subst hn0x0 hn0x1 hn0x2 hn0x3
  have hdl0x3 := abs_len hd0x3
  refine Calls.body (args := [.agg #[.bool p0.xLeaf, .slice A0x0 p0.xPairs.ls.length c0x0, .slice A0x1 p0.xKids.ls.length c0x1, .slice A0x2 p0.xPivots.ls.length c0x2, .slice A0x3 p0.xBuffers.ls.length c0x3]]) Tryz.func10 rfl rfl rfl ?_
  show Wp _ _ _ [(0, .agg #[.bool p0.xLeaf, .slice A0x0 p0.xPairs.ls.length c0x0, .slice A0x1 p0.xKids.ls.length c0x1, .slice A0x2 p0.xPivots.ls.length c0x2, .slice A0x3 p0.xBuffers.ls.length c0x3])] _ _
  refine Wp.seq (Wp.region ?_)
  refine WL.do rfl (Do.newP (cs := [.bool p0.xLeaf, .slice A0x0 p0.xPairs.ls.length c0x0, .slice A0x1 p0.xKids.ls.length c0x1, .slice A0x2 p0.xPivots.ls.length c0x2, .slice A0x3 p0.xBuffers.ls.length c0x3]) (t := 27) H rfl rfl (fun _ => by kernel_rfl) ?_)
  intro g21 w22 H23
  refine As rfl rfl (WL.nil (Fin.then (Wp.seq (Wp.region (WL.val (v := .agg #[.bool p0.xLeaf, .slice A0x0 p0.xPairs.ls.length c0x0, .slice A0x1 p0.xKids.ls.length c0x1, .slice A0x2 p0.xPivots.ls.length c0x2, .slice A0x3 p0.xBuffers.ls.length c0x3]) rfl (Yl.load rfl (Lds.agg (cs := [.bool p0.xLeaf, .slice A0x0 p0.xPairs.ls.length c0x0, .slice A0x1 p0.xKids.ls.length c0x1, .slice A0x2 p0.xPivots.ls.length c0x2, .slice A0x3 p0.xBuffers.ls.length c0x3]) Tryz.isAgg27 Tryz.sizeOf27 ((H23.cls (i := 0) rfl).lit (k := 0) (m := 5) rfl))) ?_)))))
  refine WL.do rfl (Do.call Tryz.call19 rfl ?_ (fun _ _ k => k))
  refine Calls.body (args := [.agg #[.bool p0.xLeaf, .slice A0x0 p0.xPairs.ls.length c0x0, .slice A0x1 p0.xKids.ls.length c0x1, .slice A0x2 p0.xPivots.ls.length c0x2, .slice A0x3 p0.xBuffers.ls.length c0x3]]) Tryz.func19 rfl rfl rfl ?_
  show Wp _ _ _ [(0, .agg #[.bool p0.xLeaf, .slice A0x0 p0.xPairs.ls.length c0x0, .slice A0x1 p0.xKids.ls.length c0x1, .slice A0x2 p0.xPivots.ls.length c0x2, .slice A0x3 p0.xBuffers.ls.length c0x3])] _ _
  refine Wp.seq (Wp.region ?_)
  refine WL.do rfl (Do.newP (cs := [.bool p0.xLeaf, .slice A0x0 p0.xPairs.ls.length c0x0, .slice A0x1 p0.xKids.ls.length c0x1, .slice A0x2 p0.xPivots.ls.length c0x2, .slice A0x3 p0.xBuffers.ls.length c0x3]) (t := 27) H23 rfl rfl (fun _ => by kernel_rfl) ?_)
  intro g24 w25 H26
  refine As rfl rfl (WL.nil (Fin.then (Wp.seq (Wp.block (Wp.seq (Wp.region (Kn (v := .pointer (some ⟨g24, 0, none⟩)) rfl rfl rfl (fun _ => by kernel_rfl) (WL.val (v := .bool p0.xLeaf) rfl (Yl.load rfl (Lds.one Tryz.isAgg4 (Cls.of (H26.cls (i := 0) rfl) rfl))) (Mv rfl rfl ?_)))))))))
  rcases Bool.eq_false_or_eq_true (p0.xLeaf) with h27 | h27
  refine WL.valG (v := .pointer (some ⟨g24, 2, none⟩)) rfl rfl h27 rfl (Yl.kern rfl rfl (fun _ => by kernel_rfl)) (WL.valG (v := .slice A0x1 p0.xKids.ls.length c0x1) rfl rfl h27 rfl (Yl.load rfl (Lds.one Tryz.isAgg23 (Cls.of (H26.cls (i := 0) rfl) rfl))) (WL.valG (v := .int .i64 ((p0.xKids.ls.length : Nat) : Int)) rfl rfl h27 rfl (Yl.kern rfl rfl (fun _ => by kernel_rfl)) (WL.valG (v := .pointer (some ⟨g24, 3, none⟩)) rfl rfl h27 rfl (Yl.kern rfl rfl (fun _ => by kernel_rfl)) (WL.valG (v := .slice A0x2 p0.xPivots.ls.length c0x2) rfl rfl h27 rfl (Yl.load rfl (Lds.one Tryz.isAgg24 (Cls.of (H26.cls (i := 0) rfl) rfl))) (WL.valG (v := .int .i64 ((p0.xPivots.ls.length : Nat) : Int)) rfl rfl h27 rfl (Yl.kern rfl rfl (fun _ => by kernel_rfl)) (WL.valG (v := .int .i64 (IntKind.i64.wrap (((p0.xKids.ls.length : Nat) : Int) + ((p0.xPivots.ls.length : Nat) : Int)))) rfl rfl h27 rfl (Yl.kern rfl rfl (fun _ => by kernel_rfl)) (WL.valG (v := .pointer (some ⟨g24, 4, none⟩)) rfl rfl h27 rfl (Yl.kern rfl rfl (fun _ => by kernel_rfl)) (WL.valG (v := .slice A0x3 p0.xBuffers.ls.length c0x3) rfl rfl h27 rfl (Yl.load rfl (Lds.one Tryz.isAgg25 (Cls.of (H26.cls (i := 0) rfl) rfl))) (WL.valG (v := .int .i64 ((p0.xBuffers.ls.length : Nat) : Int)) rfl rfl h27 rfl (Yl.kern rfl rfl (fun _ => by kernel_rfl)) (WL.valG (v := .int .i64 (IntKind.i64.wrap ((IntKind.i64.wrap (((p0.xKids.ls.length : Nat) : Int) + ((p0.xPivots.ls.length : Nat) : Int))) + ((p0.xBuffers.ls.length : Nat) : Int)))) rfl rfl h27 rfl (Yl.kern rfl rfl (fun _ => by kernel_rfl)) (WL.valG (v := .bool (decide (IntKind.i64.wrap ((IntKind.i64.wrap (((p0.xKids.ls.length : Nat) : Int) + ((p0.xPivots.ls.length : Nat) : Int))) + ((p0.xBuffers.ls.length : Nat) : Int)) = 0))) rfl rfl h27 rfl (Yl.kern rfl rfl (fun _ => by kernel_rfl)) (WL.val (v := .bool (decide (IntKind.i64.wrap ((IntKind.i64.wrap (((p0.xKids.ls.length : Nat) : Int) + ((p0.xPivots.ls.length : Nat) : Int))) + ((p0.xBuffers.ls.length : Nat) : Int)) = 0))) rfl (Yl.pickT rfl h27 rfl) (As rfl rfl (WL.nil (Fin.then ?_)))))))))))))))
  by_cases h28 : IntKind.i64.wrap ((IntKind.i64.wrap (((p0.xKids.ls.length : Nat) : Int) + ((p0.xPivots.ls.length : Nat) : Int))) + ((p0.xBuffers.ls.length : Nat) : Int)) = 0
  refine Wp.cond1 rfl (decide_eq_true h28) (Wp.seq (Wp.region (Kn (v := .pointer (some ⟨g24, 1, none⟩)) rfl rfl rfl (fun _ => by kernel_rfl) (WL.val (v := .slice A0x0 p0.xPairs.ls.length c0x0) rfl (Yl.load rfl (Lds.one Tryz.isAgg22 (Cls.of (H26.cls (i := 0) rfl) rfl))) (Kn (v := .agg #[.slice A0x0 p0.xPairs.ls.length c0x0]) rfl rfl rfl (fun _ => by kernel_rfl) (Kn (v := .iface 74 (.agg #[.slice A0x0 p0.xPairs.ls.length c0x0])) rfl rfl rfl (fun _ => by kernel_rfl) (As rfl rfl (WL.nil (Fin.then (Wp.ret (Fin.blockR (Fin.thenR (Fin.res (res1 rfl rfl) ?_)))))))))))))
  refine WL.do rfl (Do.call Tryz.call20 rfl ?_ (fun _ _ k => k))
  refine Calls.body (args := [.iface 74 (.agg #[.slice A0x0 p0.xPairs.ls.length c0x0])]) Tryz.func20 rfl rfl rfl ?_
  show Wp _ _ _ [(0, .iface 74 (.agg #[.slice A0x0 p0.xPairs.ls.length c0x0]))] _ _
  refine Wp.seq ?_
  have H29 := H26.pick [1] (by decide) rfl
  refine Wp.region (As rfl rfl (WL.nil (Fin.then (Wp.seq (Wp.seq (Wp.region (Mv rfl rfl (WL.nil (Fin.then (Wp.block (Wp.seq (Wp.region (Kn (v := .tuple #[.agg #[.slice A0x0 p0.xPairs.ls.length c0x0], .bool true]) rfl rfl rfl (fun _ => by kernel_rfl) (Kn (v := .bool true) rfl rfl rfl (fun _ => by kernel_rfl) (Kn (v := .agg #[.slice A0x0 p0.xPairs.ls.length c0x0]) rfl rfl rfl (fun _ => by kernel_rfl) (WL.nil (Fin.then (Wp.cond1 rfl rfl (Wp.seq (Wp.region ?_))))))))))))))))))))
  refine WL.do rfl (Do.newP (cs := [.slice none 0 0]) (t := 74) H29 rfl rfl (fun _ => by kernel_rfl) ?_)
  intro g30 w31 H32
  refine WL.do0 (Do.store (vs := [.slice A0x0 p0.xPairs.ls.length c0x0]) (o := 0) H32 rfl rfl Tryz.sizeOf74 rfl rfl rfl rfl ?_)
  intro w33 H34
  refine WL.nil (Fin.then (Wp.seq (Wp.region (Kn (v := .pointer (some ⟨g30, 0, none⟩)) rfl rfl rfl (fun _ => by kernel_rfl) (WL.val (v := .slice A0x0 p0.xPairs.ls.length c0x0) rfl (Yl.load rfl (Lds.one Tryz.isAgg22 (Cls.of (H34.cls (i := 0) rfl) rfl))) ?_)))))
  obtain ⟨r40, hr41⟩ : ∃ q, op_CheckMap p0.xPairs.ls = q := ⟨_, rfl⟩
  obtain ⟨D35, HP36, ro37, bk38, rr39⟩ := Own.enter0 H34
  refine WL.do rfl (Do.call Tryz.call35 rfl (op_CheckMap_ok _ _ A0x0 p0.xPairs.ls.length c0x0 p0.xPairs.ls r40 HP36 (ro37 _ hx0x0) rfl (by omega) hr41) ?_)
  rintro _ w42 ⟨rfl, HQ43⟩
  have H44 := bk38 _ _ HQ43
  refine As rfl rfl (WL.nil (Fin.then (Wp.ret (Fin.blockR (Fin.thenR (Fin.res (res1 rfl rfl) (As rfl rfl (WL.nil (Fin.then (Wp.ret (Fin.res (res1 rfl rfl) ?_)))))))))))
  have H45 := H44.pick [] (by decide) rfl
  have e : node_Check p0 = r40 := Eq.trans (if_pos h27) (Eq.trans (if_pos h28) (bnd_of hr41))
  obtain rfl := e.symm.trans hr
  exact ⟨rfl, H45⟩
  refine Wp.cond0 rfl (decide_eq_false h28) (Wp.seq (Wp.region (Kn (v := .pointer (some ⟨g24, 0, none⟩)) rfl rfl rfl (fun _ => by kernel_rfl) (WL.val (v := .bool p0.xLeaf) rfl (Yl.load rfl (Lds.one Tryz.isAgg4 (Cls.of (H26.cls (i := 0) rfl) rfl))) (Kn (v := .bool (!p0.xLeaf)) rfl rfl rfl (fun _ => by kernel_rfl) (Mv rfl rfl (Sk rfl rfl (congrArg not h27) rfl (Sk rfl rfl (congrArg not h27) rfl (Sk rfl rfl (congrArg not h27) rfl (Sk rfl rfl (congrArg not h27) rfl (WL.val (v := .bool false) rfl (Yl.pickF rfl (congrArg not h27) rfl) (As rfl rfl (WL.nil (Fin.then (Wp.cond0 rfl rfl (Wp.skip (Fin.blockN (Fin.then (Wp.seq ?_)))))))))))))))))))
  have H47 := H26.pick [1] (by decide) rfl
  refine Wp.region (As rfl rfl (WL.nil (Fin.then (Wp.ret (Fin.res (res1 rfl rfl) ?_)))))
  refine WL.do rfl (Do.call Tryz.call20 rfl ?_ (fun _ _ k => k))
  refine Calls.body (args := [.nilIface]) Tryz.func20 rfl rfl rfl ?_
  show Wp _ _ _ [(0, .nilIface)] _ _
  refine Wp.seq (Wp.region (As rfl rfl (WL.nil (Fin.then (Wp.seq (Wp.seq (Wp.region (Mv rfl rfl (WL.nil (Fin.then (Wp.block (Wp.seq (Wp.region (Kn (v := .tuple #[.agg #[.slice none 0 0], .bool false]) rfl rfl rfl (fun _ => by kernel_rfl) (Kn (v := .bool false) rfl rfl rfl (fun _ => by kernel_rfl) (Kn (v := .agg #[.slice none 0 0]) rfl rfl rfl (fun _ => by kernel_rfl) (WL.nil (Fin.then (Wp.cond0 rfl rfl (Wp.seq (Wp.region (Kn (v := .tuple #[.agg #[.slice none 0 0, .slice none 0 0, .slice none 0 0], .bool false]) rfl rfl rfl (fun _ => by kernel_rfl) (Kn (v := .bool false) rfl rfl rfl (fun _ => by kernel_rfl) (Kn (v := .agg #[.slice none 0 0, .slice none 0 0, .slice none 0 0]) rfl rfl rfl (fun _ => by kernel_rfl) (WL.nil (Fin.then (Wp.cond0 rfl rfl (Wp.skip (Fin.blockN (Fin.then (Wp.seq (Wp.region (As rfl rfl (WL.nil (Fin.then (Wp.ret (Fin.res (res1 rfl rfl) (As rfl rfl (WL.nil ?_)))))))))))))))))))))))))))))))))))))))
  refine Fin.then (Wp.ret (Fin.res (res1 rfl rfl) ?_))
  have H48 := H47.pick [] (by decide) rfl
  have e : node_Check p0 = 130 := Eq.trans (if_pos h27) (if_neg h28)
  obtain rfl := e.symm.trans hr
  exact ⟨rfl, H48⟩
  refine Sk rfl rfl h27 rfl (Sk rfl rfl h27 rfl (Sk rfl rfl h27 rfl (Sk rfl rfl h27 rfl (Sk rfl rfl h27 rfl (Sk rfl rfl h27 rfl (Sk rfl rfl h27 rfl (Sk rfl rfl h27 rfl (Sk rfl rfl h27 rfl (Sk rfl rfl h27 rfl (Sk rfl rfl h27 rfl (Sk rfl rfl h27 rfl (WL.val (v := .bool false) rfl (Yl.pickF rfl h27 rfl) (As rfl rfl (WL.nil (Fin.then (Wp.cond0 rfl rfl (Wp.seq (Wp.region (Kn (v := .pointer (some ⟨g24, 0, none⟩)) rfl rfl rfl (fun _ => by kernel_rfl) (WL.val (v := .bool p0.xLeaf) rfl (Yl.load rfl (Lds.one Tryz.isAgg4 (Cls.of (H26.cls (i := 0) rfl) rfl))) (Kn (v := .bool (!p0.xLeaf)) rfl rfl rfl (fun _ => by kernel_rfl) (Mv rfl rfl (WL.valG (v := .pointer (some ⟨g24, 1, none⟩)) rfl rfl (congrArg not h27) rfl (Yl.kern rfl rfl (fun _ => by kernel_rfl)) (WL.valG (v := .slice A0x0 p0.xPairs.ls.length c0x0) rfl rfl (congrArg not h27) rfl (Yl.load rfl (Lds.one Tryz.isAgg22 (Cls.of (H26.cls (i := 0) rfl) rfl))) (WL.valG (v := .int .i64 ((p0.xPairs.ls.length : Nat) : Int)) rfl rfl (congrArg not h27) rfl (Yl.kern rfl rfl (fun _ => by kernel_rfl)) (WL.valG (v := .bool (decide (((p0.xPairs.ls.length : Nat) : Int) = 0))) rfl rfl (congrArg not h27) rfl (Yl.kern rfl rfl (fun _ => by kernel_rfl)) (WL.val (v := .bool (decide (((p0.xPairs.ls.length : Nat) : Int) = 0))) rfl (Yl.pickT rfl (congrArg not h27) rfl) (As rfl rfl (WL.nil (Fin.then ?_))))))))))))))))))))))))))))))
  by_cases h50 : ((p0.xPairs.ls.length : Nat) : Int) = 0
  refine Wp.cond1 rfl (decide_eq_true h50) (Wp.seq (Wp.region (Kn (v := .pointer (some ⟨g24, 2, none⟩)) rfl rfl rfl (fun _ => by kernel_rfl) (WL.val (v := .slice A0x1 p0.xKids.ls.length c0x1) rfl (Yl.load rfl (Lds.one Tryz.isAgg23 (Cls.of (H26.cls (i := 0) rfl) rfl))) (Kn (v := .pointer (some ⟨g24, 3, none⟩)) rfl rfl rfl (fun _ => by kernel_rfl) (WL.val (v := .slice A0x2 p0.xPivots.ls.length c0x2) rfl (Yl.load rfl (Lds.one Tryz.isAgg24 (Cls.of (H26.cls (i := 0) rfl) rfl))) (Kn (v := .pointer (some ⟨g24, 4, none⟩)) rfl rfl rfl (fun _ => by kernel_rfl) (WL.val (v := .slice A0x3 p0.xBuffers.ls.length c0x3) rfl (Yl.load rfl (Lds.one Tryz.isAgg25 (Cls.of (H26.cls (i := 0) rfl) rfl))) (Kn (v := .agg #[.slice A0x1 p0.xKids.ls.length c0x1, .slice A0x2 p0.xPivots.ls.length c0x2, .slice A0x3 p0.xBuffers.ls.length c0x3]) rfl rfl rfl (fun _ => by kernel_rfl) (Kn (v := .iface 76 (.agg #[.slice A0x1 p0.xKids.ls.length c0x1, .slice A0x2 p0.xPivots.ls.length c0x2, .slice A0x3 p0.xBuffers.ls.length c0x3])) rfl rfl rfl (fun _ => by kernel_rfl) (As rfl rfl (WL.nil (Fin.then (Wp.ret (Fin.blockR (Fin.thenR (Fin.res (res1 rfl rfl) ?_)))))))))))))))))
  refine WL.do rfl (Do.call Tryz.call20 rfl ?_ (fun _ _ k => k))
  refine Calls.body (args := [.iface 76 (.agg #[.slice A0x1 p0.xKids.ls.length c0x1, .slice A0x2 p0.xPivots.ls.length c0x2, .slice A0x3 p0.xBuffers.ls.length c0x3])]) Tryz.func20 rfl rfl rfl ?_
  show Wp _ _ _ [(0, .iface 76 (.agg #[.slice A0x1 p0.xKids.ls.length c0x1, .slice A0x2 p0.xPivots.ls.length c0x2, .slice A0x3 p0.xBuffers.ls.length c0x3]))] _ _
  refine Wp.seq ?_
  have H51 := H26.pick [1] (by decide) rfl
  refine Wp.region (As rfl rfl (WL.nil (Fin.then (Wp.seq (Wp.seq (Wp.region (Mv rfl rfl (WL.nil (Fin.then (Wp.block (Wp.seq (Wp.region (Kn (v := .tuple #[.agg #[.slice none 0 0], .bool false]) rfl rfl rfl (fun _ => by kernel_rfl) (Kn (v := .bool false) rfl rfl rfl (fun _ => by kernel_rfl) (Kn (v := .agg #[.slice none 0 0]) rfl rfl rfl (fun _ => by kernel_rfl) (WL.nil (Fin.then (Wp.cond0 rfl rfl (Wp.seq (Wp.region (Kn (v := .tuple #[.agg #[.slice A0x1 p0.xKids.ls.length c0x1, .slice A0x2 p0.xPivots.ls.length c0x2, .slice A0x3 p0.xBuffers.ls.length c0x3], .bool true]) rfl rfl rfl (fun _ => by kernel_rfl) (Kn (v := .bool true) rfl rfl rfl (fun _ => by kernel_rfl) (Kn (v := .agg #[.slice A0x1 p0.xKids.ls.length c0x1, .slice A0x2 p0.xPivots.ls.length c0x2, .slice A0x3 p0.xBuffers.ls.length c0x3]) rfl rfl rfl (fun _ => by kernel_rfl) (WL.nil (Fin.then (Wp.cond1 rfl rfl (Wp.seq (Wp.region ?_))))))))))))))))))))))))))))
  refine WL.do rfl (Do.newP (cs := [.slice none 0 0, .slice none 0 0, .slice none 0 0]) (t := 76) H51 rfl rfl (fun _ => by kernel_rfl) ?_)
  intro g52 w53 H54
  refine WL.do0 (Do.store (vs := [.slice A0x1 p0.xKids.ls.length c0x1, .slice A0x2 p0.xPivots.ls.length c0x2, .slice A0x3 p0.xBuffers.ls.length c0x3]) (o := 0) H54 rfl rfl Tryz.sizeOf76 rfl rfl rfl rfl ?_)
  intro w55 H56
  refine WL.nil (Fin.then (Wp.seq (Wp.region (WL.val (v := .agg #[.slice A0x1 p0.xKids.ls.length c0x1, .slice A0x2 p0.xPivots.ls.length c0x2, .slice A0x3 p0.xBuffers.ls.length c0x3]) rfl (Yl.load rfl (Lds.agg (cs := [.slice A0x1 p0.xKids.ls.length c0x1, .slice A0x2 p0.xPivots.ls.length c0x2, .slice A0x3 p0.xBuffers.ls.length c0x3]) Tryz.isAgg76 Tryz.sizeOf76 ((H56.cls (i := 0) rfl).lit (k := 0) (m := 3) rfl))) ?_))))
  obtain ⟨r62, hr63⟩ : ∃ q, node_stem_check (stemT.mk (Ll.mk p0.xKids.ls) (Ll.mk p0.xPivots.ls) (Ll.mk p0.xBuffers.ls)) = q := ⟨_, rfl⟩
  obtain ⟨D57, HP58, ro59, bk60, rr61⟩ := Own.enter0 H56
  refine WL.do rfl (Do.call Tryz.call36 rfl (node_stem_check_ok _ _ (stemT.mk (Ll.mk p0.xKids.ls) (Ll.mk p0.xPivots.ls) (Ll.mk p0.xBuffers.ls)) A0x1 p0.xKids.ls.length c0x1 A0x2 p0.xPivots.ls.length c0x2 A0x3 p0.xBuffers.ls.length c0x3 d0x3 r62 HP58 rfl (ro59 _ hx0x1) (by first | exact ⟨Nat.le_of_ble_eq_true rfl, Nat.le_of_ble_eq_true rfl⟩ | omega | exact ⟨Nat.le_refl _, by omega⟩) rfl (ro59 _ hx0x2) (by first | exact ⟨Nat.le_of_ble_eq_true rfl, Nat.le_of_ble_eq_true rfl⟩ | omega | exact ⟨Nat.le_refl _, by omega⟩) hd0x3 rfl (ro59 _ hx0x3) (by first | exact ⟨Nat.le_of_ble_eq_true rfl, Nat.le_of_ble_eq_true rfl⟩ | omega | exact ⟨Nat.le_refl _, by omega⟩) (fun x9 h9 => ⟨ro59 _ (hm0x3 x9 h9).1, (hm0x3 x9 h9).2⟩) hr63) ?_)
  rintro _ w64 ⟨rfl, HQ65, hk67⟩
  have H66 := bk60 _ _ HQ65
  replace hk67 : ¬ (r62 = 0) ∨ (List.length (stemT.mk (Ll.mk p0.xKids.ls) (Ll.mk p0.xPivots.ls) (Ll.mk p0.xBuffers.ls)).xkids.ls ≤ 8 ∧ List.length (stemT.mk (Ll.mk p0.xKids.ls) (Ll.mk p0.xPivots.ls) (Ll.mk p0.xBuffers.ls)).xpivots.ls ≤ 8 ∧ List.length (stemT.mk (Ll.mk p0.xKids.ls) (Ll.mk p0.xPivots.ls) (Ll.mk p0.xBuffers.ls)).xbuffers.ls ≤ 8) := hk67
  refine As rfl rfl (WL.nil (Fin.then (Wp.ret (Fin.blockR (Fin.thenR (Fin.res (res1 rfl rfl) (As rfl rfl (WL.nil (Fin.then (Wp.ret (Fin.res (res1 rfl rfl) ?_)))))))))))
  have H68 := H66.pick [] (by decide) rfl
  have e : node_Check p0 = r62 := Eq.trans (ifF h27) (Eq.trans (if_pos h50) (bnd_of hr63))
  obtain rfl := e.symm.trans hr
  exact ⟨rfl, H68⟩
  refine Wp.cond0 rfl (decide_eq_false h50) (Wp.skip (Fin.blockN (Fin.then (Wp.seq ?_))))
  have H69 := H26.pick [1] (by decide) rfl
  refine Wp.region (As rfl rfl (WL.nil (Fin.then (Wp.ret (Fin.res (res1 rfl rfl) ?_)))))
  refine WL.do rfl (Do.call Tryz.call20 rfl ?_ (fun _ _ k => k))
  refine Calls.body (args := [.nilIface]) Tryz.func20 rfl rfl rfl ?_
  show Wp _ _ _ [(0, .nilIface)] _ _
  refine Wp.seq (Wp.region (As rfl rfl (WL.nil (Fin.then (Wp.seq (Wp.seq (Wp.region (Mv rfl rfl (WL.nil (Fin.then (Wp.block (Wp.seq (Wp.region (Kn (v := .tuple #[.agg #[.slice none 0 0], .bool false]) rfl rfl rfl (fun _ => by kernel_rfl) (Kn (v := .bool false) rfl rfl rfl (fun _ => by kernel_rfl) (Kn (v := .agg #[.slice none 0 0]) rfl rfl rfl (fun _ => by kernel_rfl) (WL.nil (Fin.then (Wp.cond0 rfl rfl (Wp.seq (Wp.region (Kn (v := .tuple #[.agg #[.slice none 0 0, .slice none 0 0, .slice none 0 0], .bool false]) rfl rfl rfl (fun _ => by kernel_rfl) (Kn (v := .bool false) rfl rfl rfl (fun _ => by kernel_rfl) (Kn (v := .agg #[.slice none 0 0, .slice none 0 0, .slice none 0 0]) rfl rfl rfl (fun _ => by kernel_rfl) (WL.nil (Fin.then (Wp.cond0 rfl rfl (Wp.skip (Fin.blockN (Fin.then (Wp.seq (Wp.region (As rfl rfl (WL.nil (Fin.then (Wp.ret (Fin.res (res1 rfl rfl) (As rfl rfl (WL.nil ?_)))))))))))))))))))))))))))))))))))))))
  refine Fin.then (Wp.ret (Fin.res (res1 rfl rfl) ?_))
  have H70 := H69.pick [] (by decide) rfl
  have e : node_Check p0 = 130 := Eq.trans (ifF h27) (if_neg h50)
  obtain rfl := e.symm.trans hr
  exact ⟨rfl, H70⟩

def node_Child_L0 (p1 : List UInt8) : List (List UInt8) → Nat → Nat
  | [], k26 => k26
  | x40 :: q28, k26 => if x40 ≤ p1 then node_Child_L0 p1 q28 (k26 + 1) else node_Child_L0 p1 q28 k26

def node_Child (p0 : NodeT) (p1 : List UInt8) : Int :=
  if p0.xLeaf = true then 0 else bnd (node_Child_L0 p1 p0.xPivots.ls 0) fun sLrfL => ((sLrfL : Nat) : Int)

set_option maxRecDepth 100000 in
theorem node_Child_ok (w : World) (D : Nat → Prop) (p0 : NodeT) (A0x0 : Option Addr) (n0x0 c0x0 : Nat) (A0x1 : Option Addr) (n0x1 c0x1 : Nat) (A0x2 : Option Addr) (n0x2 c0x2 : Nat) (A0x3 : Option Addr) (n0x3 c0x3 : Nat) (d0x3 : List Row46D) (p1 : List UInt8) (r0 : Int) (H : Own w D w []) (hn0x0 : n0x0 = p0.xPairs.ls.length) (hx0x0 : Ro w D fun w' => Rds w' 2 A0x0 p0.xPairs.ls.length (List.flatMap PairD.cells p0.xPairs.ls)) (hb0x0 : p0.xPairs.ls.length ≤ c0x0 ∧ p0.xPairs.ls.length ≤ 9223372036854775807) (hn0x1 : n0x1 = p0.xKids.ls.length) (hx0x1 : Ro w D fun w' => Rds w' 1 A0x1 p0.xKids.ls.length (List.flatMap (eI .i64) p0.xKids.ls)) (hb0x1 : p0.xKids.ls.length ≤ c0x1 ∧ p0.xKids.ls.length ≤ 9223372036854775807) (hn0x2 : n0x2 = p0.xPivots.ls.length) (hx0x2 : Ro w D fun w' => Rds w' 1 A0x2 p0.xPivots.ls.length (List.flatMap eS p0.xPivots.ls)) (hb0x2 : p0.xPivots.ls.length ≤ c0x2 ∧ p0.xPivots.ls.length ≤ 9223372036854775807) (hd0x3 : List.map Row46D.abs d0x3 = p0.xBuffers.ls) (hn0x3 : n0x3 = p0.xBuffers.ls.length) (hx0x3 : Ro w D fun w' => Rds w' 1 A0x3 p0.xBuffers.ls.length (List.flatMap (Sv.enc (β := EntryD)) d0x3)) (hb0x3 : p0.xBuffers.ls.length ≤ c0x3 ∧ p0.xBuffers.ls.length ≤ 9223372036854775807) (hm0x3 : ∀ x ∈ d0x3, Ro w D (fun w' => Rds w' 7 x.A x.ls.length (List.flatMap EntryD.cells x.ls)) ∧ x.ls.length ≤ 9223372036854775807) (hr : node_Child p0 p1 = r0) :
    Calls Tryz.prog 12 #[.agg #[.bool p0.xLeaf, .slice A0x0 n0x0 c0x0, .slice A0x1 n0x1 c0x1, .slice A0x2 n0x2 c0x2, .slice A0x3 n0x3 c0x3], .string ⟨List.toArray p1⟩] w (Ret fun v w' => v = .int .i64 r0 ∧ Own w D w' [] ∧ (0 ≤ r0 ∧ r0 ≤ ((p0.xPivots.ls.length : Nat) : Int))) := by
  subst hn0x0 hn0x1 hn0x2 hn0x3
  have hdl0x3 := abs_len hd0x3
  refine Calls.body (args := [.agg #[.bool p0.xLeaf, .slice A0x0 p0.xPairs.ls.length c0x0, .slice A0x1 p0.xKids.ls.length c0x1, .slice A0x2 p0.xPivots.ls.length c0x2, .slice A0x3 p0.xBuffers.ls.length c0x3], .string ⟨List.toArray p1⟩]) Tryz.func12 rfl rfl rfl ?_
  show Wp _ _ _ [(0, .agg #[.bool p0.xLeaf, .slice A0x0 p0.xPairs.ls.length c0x0, .slice A0x1 p0.xKids.ls.length c0x1, .slice A0x2 p0.xPivots.ls.length c0x2, .slice A0x3 p0.xBuffers.ls.length c0x3]), (1, .string ⟨List.toArray p1⟩)] _ _
  refine Wp.seq (Wp.region ?_)
  refine WL.do rfl (Do.newP (cs := [.bool p0.xLeaf, .slice A0x0 p0.xPairs.ls.length c0x0, .slice A0x1 p0.xKids.ls.length c0x1, .slice A0x2 p0.xPivots.ls.length c0x2, .slice A0x3 p0.xBuffers.ls.length c0x3]) (t := 27) H rfl rfl (fun _ => by kernel_rfl) ?_)
  intro g21 w22 H23
  refine As rfl rfl (WL.nil (Fin.then (Wp.seq (Wp.region (As rfl rfl (WL.nil (Fin.then (Wp.seq (Wp.seq (Wp.region (Kn (v := .pointer (some ⟨g21, 0, none⟩)) rfl rfl rfl (fun _ => by kernel_rfl) (WL.val (v := .bool p0.xLeaf) rfl (Yl.load rfl (Lds.one Tryz.isAgg4 (Cls.of (H23.cls (i := 0) rfl) rfl))) (WL.nil (Fin.then ?_))))))))))))))
  rcases Bool.eq_false_or_eq_true (p0.xLeaf) with h24 | h24
  refine Wp.cond1 rfl h24 (Wp.seq (Wp.region (Mv rfl rfl (As rfl rfl (WL.nil (Fin.then (Wp.ret (Fin.thenR (Fin.res (res1 rfl rfl) ?_)))))))))
  have H25 := H23.pick [] (by decide) rfl
  have e : node_Child p0 p1 = 0 := if_pos h24
  obtain rfl := e.symm.trans hr
  exact ⟨rfl, H25, (by first | omega | exact ⟨by omega, by omega⟩)⟩
  refine Wp.cond0 rfl h24 (Wp.skip (Fin.then (Wp.seq (Wp.seq (Wp.region (Kn (v := .pointer (some ⟨g21, 3, none⟩)) rfl rfl rfl (fun _ => by kernel_rfl) (WL.val (v := .slice A0x2 p0.xPivots.ls.length c0x2) rfl (Yl.load rfl (Lds.one Tryz.isAgg24 (Cls.of (H23.cls (i := 0) rfl) rfl))) (Kn (v := .int .i64 ((p0.xPivots.ls.length : Nat) : Int)) rfl rfl rfl (fun _ => by kernel_rfl) (Mv rfl rfl (WL.nil (Fin.then (Wp.block ?_))))))))))))
  have H29 := H23.pick [0] (by decide) rfl
  refine Wp.loop (ι := Nat × Nat) (fun i => [(5, .int .i64 ((i.1 : Nat) : Int)), (14, .int .i64 ((i.2 : Nat) : Int)), (13, .int .i64 ((p0.xPivots.ls.length : Nat) : Int)), (12, .slice A0x2 p0.xPivots.ls.length c0x2), (4, .int .i64 0), (1, .string ⟨List.toArray p1⟩)]) (fun (i : Nat × Nat) w' => Own w D w' [blk g21 [.bool p0.xLeaf, .slice A0x0 p0.xPairs.ls.length c0x0, .slice A0x1 p0.xKids.ls.length c0x1, .slice A0x2 p0.xPivots.ls.length c0x2, .slice A0x3 p0.xBuffers.ls.length c0x3] 27] ∧ (i.2 ≤ p0.xPivots.ls.length ∧ i.1 ≤ i.2 ∧ i.1 ≤ i.2 ∧ i.1 ≤ p0.xPivots.ls.length ∧ (0 ≤ i.1 ∧ i.1 ≤ ((i.2 : Nat) : Int)) ∧ node_Child_L0 p1 p0.xPivots.ls 0 = node_Child_L0 p1 (List.drop i.2 p0.xPivots.ls) i.1)) (fun i => p0.xPivots.ls.length - i.2) (0, 0) ⟨rfl, rfl, rfl, rfl, rfl, rfl, trivial⟩ ⟨H29, (show 0 ≤ p0.xPivots.ls.length ∧ 0 ≤ 0 ∧ 0 ≤ 0 ∧ 0 ≤ p0.xPivots.ls.length ∧ (0 ≤ 0 ∧ 0 ≤ ((0 : Nat) : Int)) ∧ node_Child_L0 p1 p0.xPivots.ls 0 = node_Child_L0 p1 (List.drop 0 p0.xPivots.ls) 0 from ⟨by omega, by omega, by omega, by omega, by omega, rfl⟩)⟩ ?_
  rintro ⟨k26, k27⟩ w30 ⟨H31, hf32⟩
  show Wp _ _ _ [(5, .int .i64 ((k26 : Nat) : Int)), (14, .int .i64 ((k27 : Nat) : Int)), (13, .int .i64 ((p0.xPivots.ls.length : Nat) : Int)), (12, .slice A0x2 p0.xPivots.ls.length c0x2), (4, .int .i64 0), (1, .string ⟨List.toArray p1⟩)] _ _
  replace hf32 : k27 ≤ p0.xPivots.ls.length ∧ k26 ≤ k27 ∧ k26 ≤ k27 ∧ k26 ≤ p0.xPivots.ls.length ∧ (0 ≤ k26 ∧ k26 ≤ ((k27 : Nat) : Int)) ∧ node_Child_L0 p1 p0.xPivots.ls 0 = node_Child_L0 p1 (List.drop k27 p0.xPivots.ls) k26 := hf32
  obtain ⟨hi34, hi35, hi36, hi37, hi38, hq33⟩ := hf32
  refine Wp.seq (Wp.region (Kn (v := .bool (decide (((k27 : Nat) : Int) < ((p0.xPivots.ls.length : Nat) : Int)))) rfl rfl rfl (fun _ => by kernel_rfl) (WL.nil (Fin.then (Wp.seq ?_)))))
  by_cases h39 : ((k27 : Nat) : Int) < ((p0.xPivots.ls.length : Nat) : Int)
  obtain ⟨x40, hx41⟩ := rds_at (ls := p0.xPivots.ls) (i := k27) eS_len (by decide) (H31.ro hx0x2) (by first | omega | (simp; done) | (simp; omega))
  have hd42 := drop_at hx41
  refine Wp.cond1 rfl (decide_eq_true h39) (Wp.skip (Fin.then (Wp.seq (Wp.block (Wp.seq (Wp.region (WL.val (v := .pointer (some ⟨ab A0x2, ao A0x2 + k27 * 1, none⟩)) rfl (Yl.indexAddr (El24) rfl rfl ((H31.ro hx0x2).addr (i := k27) (by omega)) (by omega)) (WL.val (v := .string ⟨List.toArray x40⟩) rfl (Yl.load rfl (Lds.one Tryz.isAgg9 (((H31.ro hx0x2).elem eS_len hx41 (by decide)).at_ (k := 0) rfl))) (As rfl rfl (WL.nil (Fin.then (Wp.seq (Wp.region (Mv rfl rfl (Mv rfl rfl (WL.val (v := .bool (decide (x40 ≤ p1))) rfl (Yl.bool (e := Op.bytesLess x40 p1 || decide (x40 = p1)) (Yl.strLe rfl rfl) (bl_le _ _)) (WL.nil (Fin.then ?_))))))))))))))))))
  by_cases h43 : x40 ≤ p1
  refine Wp.cond1 rfl (decide_eq_true h43) (Wp.region (Mv rfl rfl (WL.val (v := .int .i64 ((k26 + 1 : Nat) : Int)) rfl (Yl.int (e := IntKind.i64.wrap (((k26 : Nat) : Int) + 1)) (Yl.kern rfl rfl (fun _ => by kernel_rfl)) (by rw [IntWalk.i64_in _ (by omega)]; omega)) (As rfl rfl (WL.nil (Fin.blockN (Fin.then (Wp.region (WL.val (v := .int .i64 ((k27 + 1 : Nat) : Int)) rfl (Yl.int (e := IntKind.i64.wrap (((k27 : Nat) : Int) + 1)) (Yl.kern rfl rfl (fun _ => by kernel_rfl)) (by rw [IntWalk.i64_in _ (by omega)]; omega)) (Mv rfl rfl (WL.nil ?_)))))))))))
  have H44 := H31.pick [0] (by decide) rfl
  exact Fin.round (k26 + 1, k27 + 1) ⟨rfl, rfl, rfl, rfl, rfl, rfl, trivial⟩ ⟨H44, (show (k27 + 1) ≤ p0.xPivots.ls.length ∧ (k26 + 1) ≤ (k27 + 1) ∧ (k26 + 1) ≤ (k27 + 1) ∧ (k26 + 1) ≤ p0.xPivots.ls.length ∧ (0 ≤ (k26 + 1) ∧ (k26 + 1) ≤ (((k27 + 1) : Nat) : Int)) ∧ node_Child_L0 p1 p0.xPivots.ls 0 = node_Child_L0 p1 (List.drop (k27 + 1) p0.xPivots.ls) (k26 + 1) from ⟨by omega, by omega, by omega, by omega, by omega, Eq.trans (hq33) (Eq.trans (congrArg (fun q => node_Child_L0 p1 q k26) hd42) (if_pos h43))⟩)⟩ (by show p0.xPivots.ls.length - (k27 + 1) < p0.xPivots.ls.length - k27; omega)
  refine Wp.cond0 rfl (decide_eq_false h43) (Wp.skip (Fin.blockN (Fin.then (Wp.region (WL.val (v := .int .i64 ((k27 + 1 : Nat) : Int)) rfl (Yl.int (e := IntKind.i64.wrap (((k27 : Nat) : Int) + 1)) (Yl.kern rfl rfl (fun _ => by kernel_rfl)) (by rw [IntWalk.i64_in _ (by omega)]; omega)) (Mv rfl rfl (WL.nil ?_)))))))
  have H45 := H31.pick [0] (by decide) rfl
  exact Fin.round (k26, k27 + 1) ⟨rfl, rfl, rfl, rfl, rfl, rfl, trivial⟩ ⟨H45, (show (k27 + 1) ≤ p0.xPivots.ls.length ∧ k26 ≤ (k27 + 1) ∧ k26 ≤ (k27 + 1) ∧ k26 ≤ p0.xPivots.ls.length ∧ (0 ≤ k26 ∧ k26 ≤ (((k27 + 1) : Nat) : Int)) ∧ node_Child_L0 p1 p0.xPivots.ls 0 = node_Child_L0 p1 (List.drop (k27 + 1) p0.xPivots.ls) k26 from ⟨by omega, by omega, by omega, by omega, by omega, Eq.trans (hq33) (Eq.trans (congrArg (fun q => node_Child_L0 p1 q k26) hd42) (if_neg h43))⟩)⟩ (by show p0.xPivots.ls.length - (k27 + 1) < p0.xPivots.ls.length - k27; omega)
  refine Wp.cond0 rfl (decide_eq_false h39) (Wp.exit (Fin.thenX ?_))
  have hL46 : node_Child_L0 p1 p0.xPivots.ls 0 = k26 := Eq.trans (hq33) (Eq.trans (congrArg (fun q => node_Child_L0 p1 q k26) (drop_end (ls := p0.xPivots.ls) (i := k27) (by omega))) rfl)
  refine Fin.thenX (Fin.blockX (Fin.then (Wp.seq (Wp.region (Mv rfl rfl (As rfl rfl (WL.nil (Fin.then (Wp.ret (Fin.res (res1 rfl rfl) ?_))))))))))
  have H47 := H31.pick [] (by decide) rfl
  have e : node_Child p0 p1 = ((k26 : Nat) : Int) := Eq.trans (ifF h24) (bnd_of hL46)
  obtain rfl := e.symm.trans hr
  exact ⟨rfl, H47, (by first | omega | exact ⟨by omega, by omega⟩)⟩
end Go.Proofs.YtfkkipmdnjfocaaGreat
