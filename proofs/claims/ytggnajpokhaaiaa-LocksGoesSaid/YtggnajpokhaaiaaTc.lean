/-
 sorting numbers of 64 bits.
-/
import Derived.Test.YtggnajpokhaaiaaTbP
namespace Go.Proofs.Ytggnajpokhaaiaa
open Go.RowKit
set_option linter.unusedVariables false
set_option linter.unusedSectionVars false
set_option linter.unusedSimpArgs false
def slices_Sort_uint64_uint64 (l0 : List Nat) : (List Nat) :=
 bnd (pdqT l0 0 ((l0.length : Nat) : Int) ((Go.Sort.bitsLen l0.length : Nat) : Int)) fun yr35 => yr35
set_option maxRecDepth 100000 in
theorem slices_Sort_uint64_uint64_ok (w : World) (D : Nat → Prop) (A0 : Option Addr) (n0 c0 : Nat) (l0 : List Nat) (r0 : List Nat) (H : Own w D w [row A0 n0 c0 (List.flatMap (eN .u64) l0) 30 1]) (hn0 : n0 = l0.length) (hl0 : l0.length * 8 ≤ 211106232532992) (hr : slices_Sort_uint64_uint64 l0 = r0) :
    Calls Try.prog 52 #[.slice A0 n0 c0] w (Ret fun v w' => v = .tuple #[] ∧ Own w D w' [row A0 n0 c0 (List.flatMap (eN .u64) r0) 30 1] ∧ (r0.length = l0.length)) := by
 subst hn0
 have hc0 := H.rowC (i := 0) rfl
 refine Calls.body (args := [.slice A0 l0.length c0]) Try.func52 rfl rfl rfl ?_
 show Wp _ _ _ [(0, .slice A0 l0.length c0)] _ _
 refine sr (Mz rfl (Kz (.int .i64 ((l0.length : Nat) : Int)) (An rfl (Wp.region (Mz rfl (Mz rfl (Mz rfl (fw (.int .u64 ((l0.length : Nat) : Int)) (Yl.int (e := IntKind.u64.wrap ((l0.length : Nat) : Int)) yk (IntWalk.u64_in _ (by omega))) ?_))))))))
 obtain ⟨D21, HP22, ro23, bk24, rr25⟩ := Own.enter (L1 := []) (L2 := [row A0 l0.length c0 (List.flatMap (eN .u64) l0) 30 1]) H
 refine cl Try.call66 (bits_len _ _ l0.length HP22 (by omega)) ?_
 rintro _ w26 ⟨rfl, HQ27⟩
 have H28 := bk24 _ _ HQ27
 have hz29 : Go.Sort.bitsLen l0.length ≤ 63 := bits_len_le (by omega)
 obtain ⟨r35, hr36⟩ : ∃ q, pdqT l0 0 ((l0.length : Nat) : Int) ((Go.Sort.bitsLen l0.length : Nat) : Int) = q := ⟨_, rfl⟩
 obtain ⟨D30, HP31, ro32, bk33, rr34⟩ := Own.enter1 H28
 refine cl Try.call65 (pdqT_ok _ _ A0 l0.length c0 l0 0 ((l0.length : Nat) : Int) ((Go.Sort.bitsLen l0.length : Nat) : Int) r35 HP31 rfl (by omega) (by omega) (by omega) hr36) ?_
 rintro _ w37 ⟨rfl, HQ38, hk40⟩
 have H39 := bk33 _ _ HQ38
 have hb41 := H39.rowC (i := 0) rfl
 replace hk40 : r35.length = l0.length := hk40
 refine WL.nil (Fin.res0 (res0 rfl) ?_)
 have H42 := H39.pk [0]
 obtain rfl : _ = r35 := hr.symm.trans (bnd_of hr36)
 exact ⟨rfl, H42, (by first | rfl | omega | (simp only [List.length_set] <;> omega))⟩
theorem sort_eq (l : List Nat) : slices_Sort_uint64_uint64 l = srt l := pdqT_sort l _
end Go.Proofs.Ytggnajpokhaaiaa
