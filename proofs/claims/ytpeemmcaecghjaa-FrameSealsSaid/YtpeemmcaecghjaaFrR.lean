/-
  Contracts of the reference's Seal, Open.
-/
import Derived.Test.YtpeemmcaecghjaaFrB
import Derived.Test.YtpeemmcaecghjaaRNum
namespace Go.Proofs.Ytpeemmcaecghjaa
open Go.RowKit

theorem fix_byt8 (w : World) (s : Nat) : Byt ((w.alloc (.cells #[.int .u8 ((s : Int) % 256), .int .u8 ((s : Int) / 256 % 256), .int .u8 ((s : Int) / 65536 % 256), .int .u8 ((s : Int) / 16777216 % 256)] 33)).alloc (.cells #[.int .u8 ((s : Int) % 256), .int .u8 ((s : Int) / 256 % 256), .int .u8 ((s : Int) / 65536 % 256), .int .u8 ((s : Int) / 16777216 % 256)] 5)) (w.heap.size + 1 + 1) (some ⟨w.heap.size + 1, 0, none⟩) 4 (fix4 s) := by
  have hf : (#[.int .u8 ((s : Int) % 256), .int .u8 ((s : Int) / 256 % 256), .int .u8 ((s : Int) / 65536 % 256), .int .u8 ((s : Int) / 16777216 % 256)] : Array Value) = ((fix4 s).map bv).toArray := by
    unfold fix4
    simp only [List.map_cons, List.map_nil, bv, byte_to]
    simp
  rw [hf]
  have := lit_byt (w.alloc (.cells ((fix4 s).map bv).toArray 33)) 5 (fix4 s)
  simpa [fix4_len] using this

/-- What the reference's Seal answers. -/
def rSealP (xs : List UInt8) (w : World) (e : Ending) (w' : World) : Prop := ∃ (A : Option Addr) (m c : Nat) (er : Int), e = .returned (.tuple #[.slice A m c, .int .i64 er]) ∧ Hid (er = (sE xs : Nat)) ∧ Hid (Byt w' w'.heap.size A m (sB xs)) ∧ Below w.heap.size w w'

set_option maxHeartbeats 400000 in
set_option maxRecDepth 100000 in
theorem rSeal_long (cap n : Nat) (A : Option Addr) (xs : List UInt8) (w : World) (hl : xs.length = n) (hbig : 4096 < n) :
    Calls Try.prog 9 #[.slice A n cap] w (rSealP xs w) := by
  have hb : sB xs = [] := by unfold sB; rw [if_pos (by omega)]
  have he : sE xs = 2 := by unfold sE; rw [if_pos (by omega)]
  have HP : rSealP xs w (.returned (.tuple #[.slice none 0 0, .int .i64 2])) w := ⟨_, _, _, _, rfl, by rw [he]; rfl, by rw [hb]; exact Byt.nil_ .., Below.refl _ _⟩
  have HP := Lib.hid HP
  have t : (4096 : Int) < (n : Int) := by omega
  clear hl hb he
  go_enter Try.func9, Try.ntmps9
  go_wp2
  go_ret2
  exact HP.out

set_option maxHeartbeats 1000000 in
set_option maxRecDepth 100000 in
theorem rSeal_ok (B cap n : Nat) (A : Option Addr) (xs : List UInt8) (w : World) (hx0 : Byt w B A n xs) (hB : B ≤ w.heap.size) (hcap : n ≤ cap) (hbig : n ≤ 4096) :
    Calls Try.prog 9 #[.slice A n cap] w (rSealP xs w) := by
  have hl := hx0.len
  have hb : sB xs = sealL xs := by unfold sB; rw [if_neg (by omega)]
  have he : sE xs = 0 := by unfold sE; rw [if_neg (by omega)]
  have K := fun W => rNum_w n (show n < 18446744073709551616 by omega) W
  have hx := Lib.hid (hx0.more hB)
  have HB := Lib.hid hb
  have HE := Lib.hid he
  have HL := Lib.hid hl
  replace K := Lib.hid K
  have t : ¬ (4096 : Int) < (n : Int) := by omega
  clear hl hb he hx0 hB
  go_enter Try.func9, Try.ntmps9
  go_wp2_with fail
  refine (K.out _).mono ?_
  rintro e w1 ⟨A1, m1, c1, rfl, hc1, hm1, hm1', hl1, ho1, hb1⟩
  have hb01 : Below w.heap.size w w1 := ((Below.refl _ _).alloc (Nat.le_refl _) _).trans (hb1.mono (by simp))
  have hlit : w1.ownsRow w.heap.size 5 1 (.slice (some ⟨w.heap.size, 0, none⟩) 1 1) 1 [.int .u8 83] :=
    own_below (World.ownsRow_lit w #[.int .u8 83] 1 (Nat.le_refl _) (by unfold maxLen; omega) rfl) hb1
  have hN := Byt.of_own ho1.out
  go_wp2_with (at_builtin; refine wp_app rfl _ _ _ _ rfl elB rfl hlit rfl (src_rd Try.underlying22 hN bv_one) ?c1 ?c2 ?c3 ?_)
  case c1 => unfold maxLen; omega
  case c2 => omega
  case c3 => exact hb01.size
  intro v w2 hown2 hb2
  have hb02 := hb01.trans hb2
  have hX2 := hx.out.below hb02
  clear hlit hN ho1
  go_wp2_with (at_builtin; refine wp_app rfl _ _ _ _ rfl elB rfl hown2 rfl (src_rd Try.underlying22 hX2 bv_one) ?c4 ?c5 ?c6 ?_)
  case c4 => unfold maxLen; omega
  case c5 => omega
  case c6 => exact hb02.size
  intro v w3 hown3 hb3
  have hb03 := hb02.trans hb3
  clear hX2 hown2
  have e3 : (headL xs).map bv = [Value.int .u8 83] ++ (num n).map bv ++ xs.map bv := by
    unfold headL; rw [HL.out]; simp [bv]
  have hown4 : w3.ownsRow w.heap.size 5 1 v (1 + m1 + n) ((headL xs).map bv) := by rw [e3]; exact hown3
  clear e3 hown3
  obtain ⟨B1, d1, rfl, hd1, _⟩ := own_form hown4
  have hS := Byt.of_own hown4
  obtain ⟨s, hs⟩ : ∃ s, sum32 (headL xs) = s := ⟨_, rfl⟩
  have K2 := rSum_any d1 (1 + m1 + n) B1 (headL xs) w3 (by unfold maxLen; omega) hS
  rw [hs] at K2
  have HS := Lib.hid hs
  replace K2 := Lib.hid K2
  have HO := Lib.hid hown4
  clear hs hS hown4
  go_wp2_with fail
  refine K2.out.mono ?_
  rintro e w4 ⟨rfl, rfl⟩
  clear K2
  go_wp2_with fail
  refine (rFixed_any (s : Int) (by omega) w3).mono ?_
  rintro e w5 ⟨rfl, hb5⟩
  have hb05 := hb03.trans (hb5.mono hb03.size)
  have hO5 := Lib.hid (own_below HO.out hb5)
  clear HO hb5
  have hF := Lib.hid (fix_byt8 w5 s)
  go_wp2_with (at_builtin; refine wp_app rfl _ _ _ _ rfl elB rfl ((hO5.out.alloc _).alloc _) rfl (src_rd Try.underlying22 hF.out bv_one) ?c7 ?c8 ?c9 ?_)
  case c7 => unfold maxLen; omega
  case c8 => omega
  case c9 => have := hb05.size; simp; omega
  intro v' w6 hown6 hb6
  have hb06 := ((hb05.alloc hb05.size _).alloc (by have := hb05.size; simp; omega) _).trans hb6
  clear hF hO5
  obtain ⟨B2, d2, rfl, hd2, hd2'⟩ := own_form hown6
  rw [← List.map_append] at hown6
  have HP : rSealP xs w (.returned (.tuple #[.slice B2 (1 + m1 + n + 4) d2, .int .i64 0])) w6 := by
    refine ⟨_, _, _, _, rfl, by rw [HE.out]; rfl, ?_, hb06⟩
    rw [HB.out]
    unfold sealL
    rw [HS.out]
    exact Byt.of_own hown6
  replace HP := Lib.hid HP
  clear hown6 hb6
  go_wp2
  go_ret2
  exact HP.out

theorem rSeal_any (B cap n : Nat) (A : Option Addr) (xs : List UInt8) (w : World) (hx0 : Byt w B A n xs) (hB : B ≤ w.heap.size) (hcap : n ≤ cap) :
    Calls Try.prog 9 #[.slice A n cap] w (rSealP xs w) := by
  by_cases h : n ≤ 4096
  · exact rSeal_ok B cap n A xs w hx0 hB hcap h
  · exact rSeal_long cap n A xs w hx0.len (by omega)

/-- What the reference's Open answers. -/
def rOpenP (xs : List UInt8) (w : World) (e : Ending) (w' : World) : Prop := ∃ (A : Option Addr) (m c : Nat) (er : Int), e = .returned (.tuple #[.slice A m c, .int .i64 er]) ∧ Hid (er = (opE xs : Nat)) ∧ Hid (Byt w' w'.heap.size A m (opB xs)) ∧ Below w.heap.size w w'

theorem ropen_no {xs : List UInt8} {w w' : World} {k : Nat} (h : opE xs = k) (hk : k ≠ 0) (hb : Below w.heap.size w w') (er : Int) (he : er = k) : rOpenP xs w (.returned (.tuple #[.slice none 0 0, .int .i64 er])) w' :=
  ⟨_, _, _, _, rfl, by subst he h; rfl, by rw [opB_no (by omega)]; exact Byt.nil_ .., hb⟩

set_option maxHeartbeats 400000 in
set_option maxRecDepth 100000 in
theorem rOpen_out (cap n : Nat) (A : Option Addr) (xs : List UInt8) (w : World) (hl : xs.length = n) (hbad : 4103 < n ∨ n < 6) :
    Calls Try.prog 11 #[.slice A n cap] w (rOpenP xs w) := by
  by_cases hbig : 4103 < n
  · have he : opE xs = 2 := by unfold opE; rw [if_pos (by omega)]
    have HP := Lib.hid (ropen_no he (by decide) (Below.refl w.heap.size w) 2 rfl)
    have t : (4103 : Int) < (n : Int) := by omega
    clear hl he
    go_enter Try.func11, Try.ntmps11
    go_wp2
    go_ret2
    exact HP.out
  · have he : opE xs = 10 := by unfold opE; rw [if_neg (by omega), if_pos (by omega)]
    have HP := Lib.hid (ropen_no he (by decide) (Below.refl w.heap.size w) 10 rfl)
    have t : ¬ (4103 : Int) < (n : Int) := by omega
    have t2 : (n : Int) < 6 := by omega
    clear hl he
    go_enter Try.func11, Try.ntmps11
    go_wp2
    go_ret2
    exact HP.out

set_option maxHeartbeats 1000000 in
set_option maxRecDepth 100000 in
theorem rOpen_in (cap n b off : Nat) (xs : List UInt8) (w : World) (hx0 : Byt w w.heap.size (some ⟨b, off, none⟩) n xs) (hcap : n ≤ cap) (hbig : n ≤ 4103) (hsm : 6 ≤ n) :
    Calls Try.prog 11 #[.slice (some ⟨b, off, none⟩) n cap] w (rOpenP xs w) := by
  have hl := hx0.len
  obtain ⟨e_, he_⟩ : ∃ e_, n - 4 = e_ := ⟨_, rfl⟩
  obtain ⟨x0, x1, x2, x3, h4⟩ := last4 (xs := xs) (by omega)
  rw [hl, he_] at h4
  have hcell : ∀ j (x : UInt8), j < 4 → (xs.drop e_)[j]? = some x → w.cell? ⟨b, off + e_ + j, none⟩ = some (.int .u8 (x.toNat : Int)) := fun j x hj hxx => by
    obtain ⟨b', off', y, ha, _, hy, hc⟩ := hx0.at_ (k := e_ + j) (by omega)
    rw [List.getElem?_drop, hy] at hxx
    cases ha; cases hxx
    rw [Nat.add_assoc]; exact hc
  rw [h4] at hcell
  have c0 := hcell 0 x0 (by omega) rfl
  have c1 := hcell 1 x1 (by omega) rfl
  have c2 := hcell 2 x2 (by omega) rfl
  have c3 := hcell 3 x3 (by omega) rfl
  rw [Nat.add_zero] at c0
  have t1 : ¬ (4103 : Int) < (n : Int) := by omega
  have t2 : ¬ (n : Int) < 6 := by omega
  have s1 := fun (W : World) => cut_to (P := Try.prog) Try.underlying22 (elem_info elB) (some ⟨b, off, none⟩) n cap e_ .i64 (e_ : Int) rfl (by omega) W
  have s2 : ∀ (k : IntKind) (W : World), (Instr.slice 22 (.slice (some ⟨b, off, none⟩) n cap) (some (.int k (e_ : Int))) none none).run Try.prog W = .ok (.slice (some ⟨b, off + e_, none⟩) 4 (cap - e_)) W := fun k W => by
    rw [cut_l Try.underlying22 (elem_info elB) b off n cap e_ k _ rfl (by omega) (by omega) W, show n - e_ = 4 by omega]
  obtain ⟨q, hq⟩ : ∃ q, w4 x0 x1 x2 x3 = q := ⟨_, rfl⟩
  obtain ⟨s, hs⟩ : ∃ s, sum32 (xs.take e_) = s := ⟨_, rfl⟩
  obtain ⟨x, hx⟩ : ∃ x, xs[0]? = some x := ⟨_, List.getElem?_eq_getElem (by omega)⟩
  obtain ⟨⟨v, k, er⟩, hr⟩ : ∃ r, rdNum ((xs.take e_).drop 1) = r := ⟨_, rfl⟩
  have hk := rdNum_k ((xs.take e_).drop 1)
  have hre := rdNum_e ((xs.take e_).drop 1)
  rw [hr] at hk hre
  simp only [List.length_drop, List.length_take, hl] at hk hre
  have hsr : sum32 xs = res ↔ q = s := by
    have := sum_res (xs.take e_) x0 x1 x2 x3
    rw [← h4, List.take_append_drop, hs, hq] at this
    exact this.symm
  have hE : opE xs = if ¬ q = s then 50 else if ¬ x = 83 then 11 else if ¬ er = 0 then 11 else if ¬ v = e_ - (1 + k) ∨ 4096 < v then 11 else 0 := by
    unfold opE
    rw [if_neg (by omega), if_neg (by omega), hl, he_, hr]
    simp only [hsr, hx, Option.some.injEq]
  have hB : opE xs = 0 → opB xs = (xs.take e_).drop (1 + k) := fun h => by unfold opB; rw [if_pos h, hl, he_, hr]
  have K1 := Lib.hid (fun W h0 h1 h2 h3 => by have := rReadFixed_four (cap - e_) 4 b (off + e_) x0 x1 x2 x3 W (Nat.le_refl _) h0 h1 h2 h3; rw [rdF_w4, hq] at this; exact this)
  have hT : ∀ W, Below w.heap.size w W → Byt W W.heap.size (some ⟨b, off, none⟩) e_ (xs.take e_) := fun W hW => ((hx0.below hW).take (by omega)).more hW.size
  have K2 := Lib.hid (fun W (hW : Below w.heap.size w W) => by have := rSum_any cap e_ _ _ W (by unfold maxLen; omega) (hT W hW); rw [hs] at this; exact this)
  obtain ⟨A1, g1, _, g2⟩ := cut_any (P := Try.prog) Try.underlying22 (elem_info elB) (some ⟨b, off, none⟩) n cap 1 e_ (by omega) (by omega)
  have hD : ∀ W, Below w.heap.size w W → Byt W W.heap.size A1 (e_ - 1) ((xs.take e_).drop 1) := fun W hW => by
    have h := g2 W W.heap.size _ (by omega) ((hx0.below hW).more hW.size)
    rw [Nat.mul_one, Nat.mul_one, ← List.map_drop, ← List.map_take] at h
    rw [List.drop_take]
    exact h
  have s3 := fun (W : World) => g1 .i64 .i64 1 (e_ : Int) W rfl rfl
  have K3 := Lib.hid (fun W (hW : Below w.heap.size w W) => by have := rReadNum_any _ (cap - 1) (e_ - 1) A1 _ W (by unfold maxLen; omega) (by omega) (hD W hW) (Nat.le_refl _); rw [hr] at this; unfold tup3 at this; exact this)
  obtain ⟨x', y', hx2, hx3⟩ : ∃ (x' : Nat) (_ : x' < 256), (x.toNat = x') ∧ (x = 83 ↔ x' = 83) := ⟨x.toNat, x.toNat_lt, rfl, ⟨fun h => by subst h; rfl, fun h => UInt8.toNat_inj.1 h⟩⟩
  have hC : ∀ W, Below w.heap.size w W → W.cell? ⟨b, off, none⟩ = some (.int .u8 (x' : Int)) := fun W hW => by
    obtain ⟨b', off', y, ha, _, hy, hc⟩ := (hT W hW).at_ (k := 0) (by omega)
    cases ha
    rw [List.getElem?_take, if_pos (by omega), hx] at hy
    cases hy
    rw [← hx2]; exact hc
  replace hC := Lib.hid hC
  replace hT := Lib.hid hT
  replace hE := Lib.hid hE
  replace hB := Lib.hid hB
  have hsub : (n : Int) - 4 = (e_ : Int) := by omega
  have he3 : 2 ≤ e_ := by omega
  have he4 : e_ ≤ 4099 := by omega
  have hk' : k ≤ e_ - 1 := by omega
  have hX := Lib.hid (fun W (hW : Below w.heap.size w W) => (hx0.below hW).more hW.size)
  clear hk hx hr hs hq hD hsr h4 hcell hl hx2 y' hx0 he_ g1 g2
  go_enter Try.func11, Try.ntmps11
  go_wp2_with fail
  refine (K1.out w c0 c1 c2 c3).mono ?_
  rintro e w1 ⟨rfl, hb1⟩
  clear c0 c1 c2 c3 K1
  go_wp2_with fail
  refine (K2.out w1 hb1).mono ?_
  rintro e w2 ⟨rfl, rfl⟩
  clear K2
  by_cases h1 : q = s
  · subst h1
    have t3 : ((q : Int) != (q : Int)) = false := by simp
    go_wp2_with fail
    refine (K3.out w1 hb1).mono ?_
    rintro e w2 ⟨rfl, hb2⟩
    have hb02 := hb1.trans (hb2.mono hb1.size)
    have a1 := hC.out w2 hb02
    have hz0 : (0 : Int) < (n : Int) := by omega
    clear K3 hC t3 hb1 hb2
    by_cases h2 : x' = 83
    · subst h2
      by_cases h3 : er = 0
      · subst h3
        by_cases h5 : 4096 < v
        · have HP := Lib.hid (ropen_no (xs := xs) (k := 11) (by rw [hE.out, if_neg (by simp), if_neg (by simp [hx3]), if_neg (by simp), if_pos (.inr h5)]) (by decide) hb02 11 rfl)
          have t6 : (4096 : Int) < (v : Int) := by omega
          clear hE hB hx3 hre hX
          go_wp2
          go_ret2
          exact HP.out
        · have t6 : decide ((4096 : Int) < (v : Int)) = false := by simp; omega
          have t6' : ¬ (4096 : Int) < (v : Int) := by omega
          obtain ⟨m, hm⟩ : ∃ m, e_ - (1 + k) = m := ⟨_, rfl⟩
          have hms : (e_ : Int) - 1 - (k : Int) = (m : Int) := by omega
          by_cases h4 : v = m
          · have hz : opE xs = 0 := by rw [hE.out, if_neg (by simp), if_neg (by simp [hx3]), if_neg (by simp), if_neg (by omega)]
            have hzB := Lib.hid (hB.out hz)
            replace hz := Lib.hid hz
            subst h4
            have t7 : ((v : Int) != (v : Int)) = false := by simp
            obtain ⟨A', f1, _, f2⟩ := cut_any (P := Try.prog) Try.underlying22 (elem_info elB) (some ⟨b, off, none⟩) n cap (1 + k) e_ (by omega) (by omega)
            have f3 := f2 w2 w2.heap.size _ (by omega) (hX.out w2 hb02)
            rw [hm] at f1 f3
            have s4 := fun W => f1 .i64 .i64 (1 + (k : Int)) (e_ : Int) W (by omega) rfl
            have f4 : Byt w2 w2.heap.size A' v ((xs.take e_).drop (1 + k)) := by
              rw [Nat.mul_one, Nat.mul_one, ← List.map_drop, ← List.map_take] at f3
              rw [List.drop_take, hm]
              exact f3
            replace f4 := Lib.hid f4
            clear f1 f2 f3 hE hB hx3 hre hX hm s1 s2 s3
            go_wp2_with (at_builtin; refine wp_app rfl _ _ _ _ rfl elB rfl (World.ownsRow_nil _ w2.heap.size _ _) rfl (src_rd Try.underlying22 f4.out bv_one) ?c1 ?c2 ?c3 ?_)
            case c1 => unfold maxLen; omega
            case c2 => omega
            case c3 => exact Nat.le_refl _
            intro v' w3 hown3 hb3
            have hown4 : w3.ownsRow w2.heap.size 5 1 v' v (((xs.take e_).drop (1 + k)).map bv) := by simpa using hown3
            obtain ⟨A2, d2, rfl, _, _⟩ := own_form hown4
            have HP : rOpenP xs w (.returned (.tuple #[.slice A2 v d2, .int .i64 0])) w3 := by
              refine ⟨_, _, _, _, rfl, by rw [hz.out]; rfl, ?_, hb02.trans (hb3.mono hb02.size)⟩
              rw [hzB.out]
              exact Byt.of_own hown4
            replace HP := Lib.hid HP
            clear hown3 hown4 hb3 f4
            go_wp2
            go_ret2
            exact HP.out
          · have t7 : ((v : Int) != (m : Int)) = true := by simp; omega
            have HP := Lib.hid (ropen_no (xs := xs) (k := 11) (by rw [hE.out, if_neg (by simp), if_neg (by simp [hx3]), if_neg (by simp), if_pos (.inl (by omega))]) (by decide) hb02 11 rfl)
            clear hE hB hx3 hre hX hm
            go_wp2
            go_ret2
            exact HP.out
      · have t5 : ((er : Int) != 0) = true := by simp; omega
        have HP := Lib.hid (ropen_no (xs := xs) (k := 11) (by rw [hE.out, if_neg (by simp), if_neg (by simp [hx3]), if_pos h3]) (by decide) hb02 11 rfl)
        clear hE hB hx3 hre hX
        go_wp2
        go_ret2
        exact HP.out
    · have t4 : ((x' : Int) != 83) = true := by simp; omega
      have HP := Lib.hid (ropen_no (xs := xs) (k := 11) (by rw [hE.out, if_neg (by simp), if_pos (fun h => h2 (hx3.1 h))]) (by decide) hb02 11 rfl)
      clear hE hB hx3 hre hX
      go_wp2
      go_ret2
      exact HP.out
  · have t3 : ((q : Int) != (s : Int)) = true := by simp; omega
    have HP := Lib.hid (ropen_no (xs := xs) (k := 50) (by rw [hE.out, if_pos h1]) (by decide) hb1 50 rfl)
    clear hE hB hx3 hre hX
    go_wp2
    go_ret2
    exact HP.out

theorem rOpen_any (B cap n : Nat) (A : Option Addr) (xs : List UInt8) (w : World) (hx0 : Byt w B A n xs) (hB : B ≤ w.heap.size) (hcap : n ≤ cap) :
    Calls Try.prog 11 #[.slice A n cap] w (rOpenP xs w) := by
  by_cases h : 4103 < n ∨ n < 6
  · exact rOpen_out cap n A xs w hx0.len h
  · obtain ⟨b, off, x, rfl, _⟩ := hx0.at_ (k := 0) (by omega)
    exact rOpen_in cap n b off xs w (hx0.more hB) hcap (by omega) (by omega)
end Go.Proofs.Ytpeemmcaecghjaa
