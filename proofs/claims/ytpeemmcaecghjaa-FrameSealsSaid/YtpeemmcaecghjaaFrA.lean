/-
  Contract of frame.Seal.
-/
import Derived.Test.YtpeemmcaecghjaaFrM
import Derived.Test.YtpeemmcaecghjaaMemB
import Derived.Laws.OwnMore
namespace Go.Proofs.Ytpeemmcaecghjaa
open Go.RowKit

/-- A byte. -/
def IsB (u : Value) : Prop := ∃ x : UInt8, u = bv x
theorem isB_map {xs : List UInt8} : ∀ u ∈ xs.map bv, IsB u := fun u hu => by
  obtain ⟨x, _, rfl⟩ := List.mem_map.1 hu
  exact ⟨x, rfl⟩
theorem isB_83 : ∀ u ∈ [Value.int .u8 83], IsB u := fun u hu => ⟨83, by
  have : u = .int .u8 83 := by simpa using hu
  rw [this]; rfl⟩
theorem isB_zero : ∀ i z, Try.prog.info? 5 = some i → i.zero = some z → ∀ u ∈ z.cells.toList, IsB u := fun i z hi hz u hu => by
  have h : (Try.prog.info? 5).map (fun i => i.zero) = some (some (.int .u8 0)) := by kernel_rfl
  rw [hi] at h
  simp only [Option.map_some, Option.some.injEq] at h
  rw [h] at hz
  simp only [Option.some.injEq] at hz
  subst hz
  have : u = .int .u8 0 := by simpa [Value.cells] using hu
  exact ⟨0, this⟩
theorem all_lit {w : World} {cs : Array Value} {n : Nat} (h : ∀ u ∈ cs.toList, IsB u) : AllIn IsB 5 (.slice (some ⟨w.heap.size, 0, none⟩) n n) (w.alloc (.cells cs 5)) := fun g cur hg hc u hu => by
  simp only [Value.ownBlock, Option.some.injEq] at hg
  subst hg
  have h1 := (heap_alloc_new w (.cells cs 5)).symm.trans hc
  simp only [Option.some.injEq, Obj.cells.injEq] at h1
  rw [← h1.1] at hu
  exact h u hu

/-- A row of bytes that is the caller's own, the spare ones too. -/
def Own (w : World) (base : Nat) (A : Option Addr) (m c : Nat) (xs : List UInt8) : Prop := w.ownsRow base 5 1 (.slice A m c) m (xs.map bv) ∧ m ≤ c ∧ c ≤ maxLen ∧ AllIn IsB 5 (.slice A m c) w

theorem Own.byt {w : World} {base m c : Nat} {A : Option Addr} {xs : List UInt8} (h : Own w base A m c xs) : Byt w w.heap.size A m xs := Byt.of_own h.1
theorem Own.len {w : World} {base m c : Nat} {A : Option Addr} {xs : List UInt8} (h : Own w base A m c xs) : xs.length = m := h.byt.len
theorem Own.nil (w : World) (base : Nat) : Own w base none 0 0 [] := ⟨World.ownsRow_nil w base _ 1, Nat.le_refl _, by unfold maxLen; omega, fun g cur hg => by cases hg⟩

theorem fix_byt (w : World) (s : Nat) : Byt (w.alloc (.cells #[.int .u8 ((s : Int) % 256), .int .u8 ((s : Int) / 256 % 256), .int .u8 ((s : Int) / 65536 % 256), .int .u8 ((s : Int) / 16777216 % 256)] 33)) (w.heap.size + 1) (some ⟨w.heap.size, 0, none⟩) 4 (fix4 s) := by
  have hf : (#[.int .u8 ((s : Int) % 256), .int .u8 ((s : Int) / 256 % 256), .int .u8 ((s : Int) / 65536 % 256), .int .u8 ((s : Int) / 16777216 % 256)] : Array Value) = ((fix4 s).map bv).toArray := by
    unfold fix4
    simp only [List.map_cons, List.map_nil, bv, byte_to]
    simp
  rw [hf]
  exact lit_byt w _ (fix4 s)

/-- What Seal answers, as a value, in its world. -/
def SealP (xs : List UInt8) (w : World) (e : Ending) (w' : World) : Prop := ∃ (A : Option Addr) (m c : Nat) (er : Int), e = .returned (.tuple #[.slice A m c, .int .i64 er]) ∧ Hid (er = (sE xs : Nat)) ∧ Hid (Own w' w.heap.size A m c (sB xs)) ∧ Below w.heap.size w w'

set_option maxHeartbeats 400000 in
set_option maxRecDepth 100000 in
theorem Seal_long (cap n : Nat) (A : Option Addr) (xs : List UInt8) (w : World) (hl : xs.length = n) (hbig : 4096 < n) :
    Calls Try.prog 8 #[.slice A n cap] w (SealP xs w) := by
  have hb : sB xs = [] := by unfold sB; rw [if_pos (by omega)]
  have he : sE xs = 2 := by unfold sE; rw [if_pos (by omega)]
  have HP : SealP xs w (.returned (.tuple #[.slice none 0 0, .int .i64 2])) w := ⟨_, _, _, _, rfl, by rw [he]; rfl, by rw [hb]; exact Own.nil .., Below.refl _ _⟩
  have HP := Lib.hid HP
  have t : (4096 : Int) < (n : Int) := by omega
  clear hl hb he
  go_enter Try.func8, Try.ntmps8
  go_wp2
  go_ret2
  exact HP.out

set_option maxHeartbeats 1000000 in
set_option maxRecDepth 100000 in
theorem Seal_ok (B cap n : Nat) (A : Option Addr) (xs : List UInt8) (w : World) (hx0 : Byt w B A n xs) (hB : B ≤ w.heap.size) (hcap : n ≤ cap) (hbig : n ≤ 4096) :
    Calls Try.prog 8 #[.slice A n cap] w (SealP xs w) := by
  have hl := hx0.len
  have hb : sB xs = sealL xs := by unfold sB; rw [if_neg (by omega)]
  have he : sE xs = 0 := by unfold sE; rw [if_neg (by omega)]
  have K := fun W => Num_w n (show n < 18446744073709551616 by omega) W
  have hx := Lib.hid (hx0.more hB)
  have HB := Lib.hid hb
  have HE := Lib.hid he
  have HL := Lib.hid hl
  have K := Lib.hid K
  have t : ¬ (4096 : Int) < (n : Int) := by omega
  clear hl hb he hx0 hB
  go_enter Try.func8, Try.ntmps8
  go_wp2_with fail
  refine (K.out _).mono ?_
  rintro e w1 ⟨A1, m1, c1, rfl, hc1, hm1, hm1', hl1, ho1, hb1⟩
  have hb01 : Below w.heap.size w w1 := ((Below.refl _ _).alloc (Nat.le_refl _) _).trans (hb1.mono (by simp))
  have hlit : w1.ownsRow w.heap.size 5 1 (.slice (some ⟨w.heap.size, 0, none⟩) 1 1) 1 [.int .u8 83] :=
    own_below (World.ownsRow_lit w #[.int .u8 83] 1 (Nat.le_refl _) (by unfold maxLen; omega) rfl) hb1
  have hal : AllIn IsB 5 (.slice (some ⟨w.heap.size, 0, none⟩) 1 1) w1 :=
    (all_lit (w := w) (cs := #[.int .u8 83]) isB_83).below (World.ownsRow_lit (e := 5) (size := 1) w #[.int .u8 83] 1 (Nat.le_refl _) (by unfold maxLen; omega) rfl) hb1
  have hN := Byt.of_own ho1.out
  go_wp2_with (at_builtin; refine wp_appB IsB rfl _ _ _ _ rfl elB isB_zero rfl hlit rfl (src_rd Try.underlying22 hN bv_one) isB_map isB_83 hal ?c1 ?c2 ?c3 ?_)
  case c1 => unfold maxLen; omega
  case c2 => omega
  case c3 => exact hb01.size
  intro v w2 hown2 hall2 hb2
  have hb02 := hb01.trans hb2
  have hX2 := hx.out.below hb02
  have hnw : ∀ u ∈ [Value.int .u8 83] ++ (num n).map bv, IsB u := fun u hu => by
    rcases List.mem_append.1 hu with hu | hu
    · exact isB_83 u hu
    · exact isB_map u hu
  clear hlit hN ho1 hal
  go_wp2_with (at_builtin; refine wp_appB IsB rfl _ _ _ _ rfl elB isB_zero rfl hown2 rfl (src_rd Try.underlying22 hX2 bv_one) isB_map hnw hall2 ?c4 ?c5 ?c6 ?_)
  case c4 => unfold maxLen; omega
  case c5 => omega
  case c6 => exact hb02.size
  intro v w3 hown3 hall3 hb3
  have hb03 := hb02.trans hb3
  clear hX2 hown2 hall2 hnw
  have e3 : (headL xs).map bv = [Value.int .u8 83] ++ (num n).map bv ++ xs.map bv := by
    unfold headL; rw [HL.out]; simp [bv]
  have hown4 : w3.ownsRow w.heap.size 5 1 v (1 + m1 + n) ((headL xs).map bv) := by rw [e3]; exact hown3
  clear e3 hown3
  have hown3 := hown4
  clear hown4
  obtain ⟨B1, d1, rfl, hd1, _⟩ := own_form hown3
  have hS := Byt.of_own hown3
  obtain ⟨s, hs⟩ : ∃ s, sum32 (headL xs) = s := ⟨_, rfl⟩
  have K2 := Sum_any d1 (1 + m1 + n) B1 (headL xs) w3 (by unfold maxLen; omega) hS
  rw [hs] at K2
  have HS := Lib.hid hs
  have K2 := Lib.hid K2
  have HO := Lib.hid hown3
  have HA := Lib.hid hall3
  clear hs hS hown3 hall3
  go_wp2_with fail
  refine K2.out.mono ?_
  rintro e w4 ⟨rfl, hb4⟩
  have hb04 := hb03.trans (hb4.mono hb03.size)
  have hO4 := own_below HO.out hb4
  have hA4 := Lib.hid (HA.out.below HO.out hb4)
  clear K2 HO hb4 HA
  have hO4 := Lib.hid hO4
  go_wp2_with fail
  refine (Fixed_any (s : Int) (by omega) w4).mono ?_
  rintro e w5 ⟨rfl, hb5⟩
  have hb05 := hb04.trans (hb5.mono hb04.size)
  have hO5 := Lib.hid (own_below hO4.out hb5)
  have hA5 := Lib.hid (hA4.out.below hO4.out hb5)
  clear hO4 hA4 hb5
  have hF := Lib.hid (fix_byt w5 s)
  go_wp2_with (at_builtin; refine wp_appB IsB rfl _ _ _ _ rfl elB isB_zero rfl (hO5.out.alloc _) rfl (src_rd Try.underlying22 hF.out bv_one) isB_map isB_map (hA5.out.below hO5.out ((Below.refl _ _).alloc (Nat.le_refl _) _)) ?c7 ?c8 ?c9 ?_)
  case c7 => unfold maxLen; omega
  case c8 => omega
  case c9 => have := hb05.size; simp; omega
  intro v' w6 hown6 hall6 hb6
  have hb06 := (hb05.alloc hb05.size _).trans hb6
  clear hF hO5 hA5
  obtain ⟨B2, d2, rfl, hd2, hd2'⟩ := own_form hown6
  rw [← List.map_append] at hown6
  have HP : SealP xs w (.returned (.tuple #[.slice B2 (1 + m1 + n + 4) d2, .int .i64 0])) w6 := by
    refine ⟨_, _, _, _, rfl, by rw [HE.out]; rfl, ?_, hb06⟩
    rw [HB.out]
    unfold sealL
    rw [HS.out]
    exact ⟨hown6, hd2, hd2', hall6⟩
  have HP := Lib.hid HP
  clear hown6 hb6 hall6
  go_wp2
  go_ret2
  exact HP.out

theorem Seal_any (B cap n : Nat) (A : Option Addr) (xs : List UInt8) (w : World) (hx0 : Byt w B A n xs) (hB : B ≤ w.heap.size) (hcap : n ≤ cap) :
    Calls Try.prog 8 #[.slice A n cap] w (SealP xs w) := by
  by_cases h : n ≤ 4096
  · exact Seal_ok B cap n A xs w hx0 hB hcap h
  · exact Seal_long cap n A xs w hx0.len (by omega)

/-- bytes.Clone. -/
def CloneP (n : Nat) (xs : List UInt8) (w : World) (e : Ending) (w' : World) : Prop := ∃ (A : Option Addr) (c : Nat), e = .returned (.slice A n c) ∧ Hid (Own w' w.heap.size A n c xs) ∧ Below w.heap.size w w'

set_option maxHeartbeats 400000 in
set_option maxRecDepth 100000 in
theorem Clone_any (B cap n : Nat) (A : Option Addr) (xs : List UInt8) (w : World) (hx0 : Byt w B A n xs) (hB : B ≤ w.heap.size) (hn : n ≤ 100000) :
    Calls Try.prog 20 #[.slice A n cap] w (CloneP n xs w) := by
  have hx := Lib.hid (hx0.more hB)
  clear hx0 hB
  match A, hx with
  | none, hx =>
    have h0 : n = 0 := by
      by_cases h : 0 < n
      · obtain ⟨_, _, _, h, _⟩ := hx.out.at_ h; cases h
      · omega
    subst h0
    have h1 := List.eq_nil_of_length_eq_zero hx.out.len
    subst h1
    have HP : CloneP 0 [] w (.returned (.slice none 0 0)) w := ⟨_, _, rfl, Own.nil .., Below.refl _ _⟩
    have HP := Lib.hid HP
    have he : ∀ W : World, (binOp .eql 22 (.slice none 0 cap) (.slice none 0 0)).run Try.prog W = .ok (.bool true) W := fun _ => rfl
    go_enter Try.func20, Try.ntmps20
    go_wp2
    go_ret
    exact HP.out
  | some a, hx =>
    have he : ∀ W : World, (binOp .eql 22 (.slice (some a) n cap) (.slice none 0 0)).run Try.prog W = .ok (.bool false) W := fun _ => rfl
    go_enter Try.func20, Try.ntmps20
    go_wp2_with (at_builtin; refine wp_appB IsB rfl _ _ _ _ rfl elB isB_zero rfl (World.ownsRow_made w #[] 0 (Nat.le_refl _) (by unfold maxLen; omega) rfl) rfl (src_rd Try.underlying22 (hx.out.alloc (Nat.le_refl _) _) bv_one) isB_map (fun u hu => by cases hu) (all_lit (n := 0) (fun u hu => by cases hu)) ?c1 ?c2 ?c3 ?_)
    case c1 => unfold maxLen; omega
    case c2 => omega
    case c3 => simp
    intro v w1 hown hall hb
    obtain ⟨B1, d1, rfl, hd1, hd1'⟩ := own_form hown
    have HP : CloneP n xs w (.returned (.slice B1 n d1)) w1 := by
      refine ⟨_, _, rfl, ⟨?_, by omega, hd1', ?_⟩, ((Below.refl _ _).alloc (Nat.le_refl _) _).trans hb⟩
      · exact hown
      · exact fun g cur hg hc => hall g cur hg hc
    have HP := Lib.hid HP
    clear hown hb hall
    go_wp2
    go_ret
    exact HP.out
end Go.Proofs.Ytpeemmcaecghjaa
