/-
  Contract of the law's live.
-/
import Derived.Test.YtpinofeknilgfaaSpanD
namespace Go.Proofs.Ytpinofeknilgfaa
open Go.RowKit

def B1 (x : UInt8) : ByteArray := ⟨#[x]⟩

def LivP : Prop := ∀ w : World, Calls Try.prog 22 #[.string ⟨#[97]⟩] w fun e w' =>
    e = .returned (.tuple #[.agg #[.string ⟨#[97]⟩, .string ⟨#[97, 0]⟩], .int .i64 0]) ∧ Below w.heap.size w w'
theorem livP : LivP := fun w => Point_short ⟨#[97]⟩ (by decide +kernel) (by decide) w

theorem Meet_lit (l1 h1 l2 h2 m l : ByteArray) (b : Bool) (hm : meetB l1 h1 l2 h2 = b) (h3 : mxS l1 l2 = m) (h4 : lesserB h1 h2 = l) (w : World) : Calls Try.prog 18 #[.agg #[.string l1, .string h1], .agg #[.string l2, .string h2]] w fun e w' =>
    e = .returned (.tuple #[cond b (.agg #[.string m, .string l]) (.agg #[.string ⟨#[]⟩, .string ⟨#[]⟩]), .bool b]) ∧ Below w.heap.size w w' := by
  subst hm h3 h4
  exact Meet_any l1 h1 l2 h2 w

def LivM : Prop := ∀ w : World, Calls Try.prog 18 #[.agg #[.string ⟨#[97]⟩, .string ⟨#[109]⟩], .agg #[.string ⟨#[103]⟩, .string ⟨#[]⟩]] w fun e w' =>
    e = .returned (.tuple #[.agg #[.string ⟨#[103]⟩, .string ⟨#[109]⟩], .bool true]) ∧ Below w.heap.size w w'
theorem livM : LivM := Meet_lit _ _ _ _ ⟨#[103]⟩ ⟨#[109]⟩ true (by decide +kernel) (by decide +kernel) (by decide +kernel)
def LivN : Prop := ∀ w : World, Calls Try.prog 18 #[.agg #[.string ⟨#[97]⟩, .string ⟨#[103]⟩], .agg #[.string ⟨#[103]⟩, .string ⟨#[]⟩]] w fun e w' =>
    e = .returned (.tuple #[.agg #[.string ⟨#[]⟩, .string ⟨#[]⟩], .bool false]) ∧ Below w.heap.size w w'
theorem livN : LivN := Meet_lit _ _ _ _ ⟨#[103]⟩ ⟨#[103]⟩ false (by decide +kernel) (by decide +kernel) (by decide +kernel)
def LivC : Prop := ∀ w : World, Calls Try.prog 24 #[.agg #[.string ⟨#[]⟩, .string ⟨#[109]⟩], .string ⟨#[103]⟩] w fun e w' =>
    e = .returned (.tuple #[.agg #[.string ⟨#[]⟩, .string ⟨#[103]⟩], .agg #[.string ⟨#[103]⟩, .string ⟨#[109]⟩], .int .i64 0]) ∧ Below w.heap.size w w'
theorem livC : LivC := fun w => Cut_yes _ _ _ (by decide +kernel) (by decide +kernel) (by decide +kernel) (by decide +kernel) w
def LivD : Prop := ∀ w : World, Calls Try.prog 24 #[.agg #[.string ⟨#[]⟩, .string ⟨#[109]⟩], .string ⟨#[109]⟩] w fun e w' =>
    e = .returned (.tuple #[.agg #[.string ⟨#[]⟩, .string ⟨#[]⟩], .agg #[.string ⟨#[]⟩, .string ⟨#[]⟩], .int .i64 21]) ∧ Below w.heap.size w w'
theorem livD : LivD := fun w => Cut_rest _ _ _ (by decide +kernel) (by decide +kernel) (by decide +kernel) w

set_option maxHeartbeats 2000000 in
set_option maxRecDepth 100000 in
theorem live_any (w : World) : Calls Try.prog 11 #[] w fun e w' => e = .returned (.bool true) ∧ Below w.heap.size w w' := by
  go_enter Try.func11, Try.ntmps11
  go_wp2_with fail
  refine (livP _).mono ?_
  rintro e w1 ⟨rfl, hb1⟩
  go_wp2_with fail
  refine (livM _).mono ?_
  rintro e w2 ⟨rfl, hb2⟩
  have hb2' := hb2.size
  simp only [World.size_alloc] at hb2'
  have e1 := blk_carry (al_new w1 (.cells #[.string ⟨#[97]⟩, .string ⟨#[97, 0]⟩] 23)) hb2 (by simp)
  have f12 : Below w1.heap.size w1 w2 := (al_below w1 _).trans (hb2.mono (by simp))
  have f02 := hb1.trans (f12.mono hb1.size)
  go_wp2_with fail
  refine (livN _).mono ?_
  rintro e w3 ⟨rfl, hb3⟩
  have hb3' := hb3.size
  simp only [World.size_alloc] at hb3'
  have e2 := blk_carry (al_new w2 (.cells #[.string ⟨#[103]⟩, .string ⟨#[109]⟩] 23)) hb3 (by simp)
  have f23 : Below w2.heap.size w2 w3 := (al_below w2 _).trans (hb3.mono (by simp))
  have f03 := f02.trans (f23.mono f02.size)
  have e1' := blk_carry e1 f23 (by omega)
  go_wp2_with fail
  refine (livC _).mono ?_
  rintro e w4 ⟨rfl, hb4⟩
  have hb4' := hb4.size
  simp only [World.size_alloc] at hb4'
  have f34 : Below w3.heap.size w3 w4 := (al_below w3 _).trans (hb4.mono (by simp))
  have f04 := f03.trans (f34.mono f03.size)
  have e1'' := blk_carry e1' f34 (by omega)
  have e2'' := blk_carry e2 f34 (by omega)
  go_wp2_with fail
  refine (livD _).mono ?_
  rintro e w5 ⟨rfl, hb5⟩
  have hb5' := hb5.size
  simp only [World.size_alloc] at hb5'
  have e3 := blk_carry (al2_0 w4 (.cells #[.string ⟨#[]⟩, .string ⟨#[103]⟩] 23) (.cells #[.string ⟨#[103]⟩, .string ⟨#[109]⟩] 23)) hb5 (by simp <;> omega)
  have e4 := blk_carry (al2_1 w4 (.cells #[.string ⟨#[]⟩, .string ⟨#[103]⟩] 23) (.cells #[.string ⟨#[103]⟩, .string ⟨#[109]⟩] 23)) hb5 (by simp <;> omega)
  have f45 : Below w4.heap.size w4 w5 := (al2_below w4 _ _).trans (hb5.mono (by simp <;> omega))
  have f05 := hid' (f04.trans (f45.mono f04.size))
  obtain ⟨a1, a2, _, _⟩ := cells2 (blk_carry e1'' f45 (by omega))
  obtain ⟨b1, b2, _, _⟩ := cells2 (blk_carry e2'' f45 (by omega))
  obtain ⟨c1, c2, _, _⟩ := cells2 e3
  obtain ⟨d1, d2, _, _⟩ := cells2 e4
  clear e1 e1' e1'' e2 e2'' e3 e4 f45 f04 f34 f03 f23 f02 f12 hb1 hb2 hb3 hb4 hb5
  have q1 : w1.heap.size < w5.heap.size := by omega
  have q2 : w2.heap.size < w5.heap.size := by omega
  have q4 : w4.heap.size < w5.heap.size := by omega
  have q5 : w4.heap.size + 1 < w5.heap.size := by omega
  clear hb2' hb3' hb4' hb5'
  go_wp2
  go_ret
  refine ⟨rfl, ?_⟩
  have q0 := f05.out.size
  refine Below.alloc (Below.alloc f05.out ?_ _) ?_ _ <;> (try simp) <;> omega
end Go.Proofs.Ytpinofeknilgfaa
