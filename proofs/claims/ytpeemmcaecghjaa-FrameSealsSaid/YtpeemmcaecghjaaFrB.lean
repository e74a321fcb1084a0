/-
  Contract of frame.Open.
-/
import Derived.Test.YtpeemmcaecghjaaFrA
namespace Go.Proofs.Ytpeemmcaecghjaa
open Go.RowKit

theorem cut_hm {P : Program} {t e size : Nat} (ht : P.underlying t = some (.slice e)) (hs : ∃ i, P.info? e = some i ∧ i.size = size) (A : Option Addr) (n c hi : Nat) (k k2 : IntKind) (h h' : Int) (eh : h = hi) (eh' : h' = hi) (h2 : hi ≤ c) (w : World) :
    (Instr.slice t (.slice A n c) none (some (.int k h)) (some (.int k2 h'))).run P w = .ok (.slice A hi hi) w := by
  obtain ⟨i, hi', rfl⟩ := hs
  have hel : P.elem t = e := by simp [Program.elem, ht]
  have ht' : P.underlying t = some (.slice (P.elem t)) := by rw [hel]; exact ht
  subst eh eh'
  rw [run_slice_any w t A n c ht']
  simp [Instr.sliceBounds, run_sliceBound, h2, Result.andThen, sizeOf, typeInfo, hel, hi', sliced]
  cases A <;> simp [Addr.add]

theorem cut_l {P : Program} {t e : Nat} (ht : P.underlying t = some (.slice e)) (hs : ∃ i, P.info? e = some i ∧ i.size = 1) (b off n c lo : Nat) (k : IntKind) (h : Int) (eh : h = lo) (h1 : lo ≤ n) (h2 : lo < c) (w : World) :
    (Instr.slice t (.slice (some ⟨b, off, none⟩) n c) (some (.int k h)) none none).run P w = .ok (.slice (some ⟨b, off + lo, none⟩) (n - lo) (c - lo)) w := by
  obtain ⟨i, hi', hi1⟩ := hs
  have hel : P.elem t = e := by simp [Program.elem, ht]
  have ht' : P.underlying t = some (.slice (P.elem t)) := by rw [hel]; exact ht
  subst eh
  rw [run_slice_l w t _ n c ht' k _ (by omega) (by omega)]
  simp [hel, sizeOf, typeInfo, hi', hi1, Result.andThen, sliced]
  rw [if_neg (by omega), add_none]

theorem cut3 {P : Program} {t e size : Nat} (ht : P.underlying t = some (.slice e)) (hs : ∃ i, P.info? e = some i ∧ i.size = size) (A : Option Addr) (n c lo hi : Nat) (h1 : lo ≤ hi) (h2 : hi ≤ c) :
    ∃ A', (∀ (kl kh km : IntKind) (l h m : Int) (w : World), l = lo → h = hi → m = hi → (Instr.slice t (.slice A n c) (some (.int kl l)) (some (.int kh h)) (some (.int km m))).run P w = .ok (.slice A' (hi - lo) (hi - lo)) w) ∧
      (∀ (w : World) (B : Nat) (xs : List Value), hi ≤ n → Rd w B size A n xs → Rd w B size A' (hi - lo) ((xs.drop (lo * size)).take ((hi - lo) * size))) := by
  obtain ⟨i, hi', rfl⟩ := hs
  have hel : P.elem t = e := by simp [Program.elem, ht]
  have ht' : P.underlying t = some (.slice (P.elem t)) := by rw [hel]; exact ht
  refine ⟨if hi = lo then A else A.map (·.add (lo * i.size)), fun kl kh km l h m w el eh em => ?_, fun w B xs hn hr => ?_⟩
  · subst el eh em
    rw [run_slice_any w t A n c ht']
    simp [Instr.sliceBounds, run_sliceBound, h1, h2, Result.andThen, sizeOf, typeInfo, hel, hi', sliced]
  · have hl := hr.1
    have e1 : (hi - lo) * i.size + lo * i.size = hi * i.size := by rw [← Nat.add_mul]; congr 1; omega
    have e2 : hi * i.size ≤ n * i.size := Nat.mul_le_mul_right _ hn
    refine ⟨by simp only [List.length_take, List.length_drop]; omega, fun hpos => ?_⟩
    obtain ⟨b, off, rfl, hb, hc⟩ := hr.2 (by omega)
    rw [if_neg (by omega)]
    refine ⟨b, off + lo * i.size, by rw [Option.map_some, add_none], hb, fun j hj => ?_⟩
    simp only [List.length_take, List.length_drop] at hj
    have := hc (lo * i.size + j) (by omega)
    simpa [Nat.add_assoc] using this

/-- What Open answers, as a value, in its world. -/
def OpenP (xs : List UInt8) (w : World) (e : Ending) (w' : World) : Prop := ∃ (A : Option Addr) (m c : Nat) (er : Int), e = .returned (.tuple #[.slice A m c, .int .i64 er]) ∧ Hid (er = (opE xs : Nat)) ∧ Hid (Own w' w.heap.size A m c (opB xs)) ∧ Below w.heap.size w w'

theorem open_no {xs : List UInt8} {w w' : World} {k : Nat} (h : opE xs = k) (hk : k ≠ 0) (hb : Below w.heap.size w w') (er : Int) (he : er = k) : OpenP xs w (.returned (.tuple #[.slice none 0 0, .int .i64 er])) w' :=
  ⟨_, _, _, _, rfl, by subst he h; rfl, by rw [opB_no (by omega)]; exact Own.nil .., hb⟩

set_option maxHeartbeats 400000 in
set_option maxRecDepth 100000 in
theorem Open_out (cap n : Nat) (A : Option Addr) (xs : List UInt8) (w : World) (hl : xs.length = n) (hbad : 4103 < n ∨ n < 6) :
    Calls Try.prog 10 #[.slice A n cap] w (OpenP xs w) := by
  by_cases hbig : 4103 < n
  · have he : opE xs = 2 := by unfold opE; rw [if_pos (by omega)]
    have HP := Lib.hid (open_no he (by decide) (Below.refl w.heap.size w) 2 rfl)
    have t : (4103 : Int) < (n : Int) := by omega
    clear hl he
    go_enter Try.func10, Try.ntmps10
    go_wp2
    go_ret2
    exact HP.out
  · have he : opE xs = 10 := by unfold opE; rw [if_neg (by omega), if_pos (by omega)]
    have HP := Lib.hid (open_no he (by decide) (Below.refl w.heap.size w) 10 rfl)
    have t : ¬ (4103 : Int) < (n : Int) := by omega
    have t2 : (n : Int) < 6 := by omega
    clear hl he
    go_enter Try.func10, Try.ntmps10
    go_wp2
    go_ret2
    exact HP.out

set_option maxHeartbeats 1000000 in
set_option maxRecDepth 100000 in
theorem Open_in (cap n b off : Nat) (xs : List UInt8) (w : World) (hx0 : Byt w w.heap.size (some ⟨b, off, none⟩) n xs) (hcap : n ≤ cap) (hbig : n ≤ 4103) (hsm : 6 ≤ n) :
    Calls Try.prog 10 #[.slice (some ⟨b, off, none⟩) n cap] w (OpenP xs w) := by
  have hl := hx0.len
  obtain ⟨e_, he_⟩ : ∃ e_, n - 4 = e_ := ⟨_, rfl⟩
  obtain ⟨x0, x1, x2, x3, h4⟩ := last4 (xs := xs) (by omega)
  rw [hl, he_] at h4
  have hcell : ∀ j (x : UInt8), j < 4 → (xs.drop e_)[j]? = some x → w.cell? ⟨b, off + e_ + j, none⟩ = some (.int .u8 (x.toNat : Int)) := fun j x hj hxx => by
    obtain ⟨b', off', y, ha, _, hy, hc⟩ := hx0.at_ (k := e_ + j) (by omega)
    rw [List.getElem?_drop, hy] at hxx
    cases ha; cases hxx
    rw [Nat.add_assoc]; exact hc
  rw [h4] at hcell
  have c0 := hcell 0 x0 (by omega) rfl
  have c1 := hcell 1 x1 (by omega) rfl
  have c2 := hcell 2 x2 (by omega) rfl
  have c3 := hcell 3 x3 (by omega) rfl
  rw [Nat.add_zero] at c0
  have t1 : ¬ (4103 : Int) < (n : Int) := by omega
  have t2 : ¬ (n : Int) < 6 := by omega
  have s1 := fun (kl kh : IntKind) (W : World) => cut_hm (P := Try.prog) Try.underlying22 (elem_info elB) (some ⟨b, off, none⟩) n cap e_ kl kh (e_ : Int) (e_ : Int) rfl rfl (by omega) W
  have s2 : ∀ (k : IntKind) (W : World), (Instr.slice 22 (.slice (some ⟨b, off, none⟩) n cap) (some (.int k (e_ : Int))) none none).run Try.prog W = .ok (.slice (some ⟨b, off + e_, none⟩) 4 (cap - e_)) W := fun k W => by
    rw [cut_l Try.underlying22 (elem_info elB) b off n cap e_ k _ rfl (by omega) (by omega) W, show n - e_ = 4 by omega]
  obtain ⟨q, hq⟩ : ∃ q, w4 x0 x1 x2 x3 = q := ⟨_, rfl⟩
  obtain ⟨s, hs⟩ : ∃ s, sum32 (xs.take e_) = s := ⟨_, rfl⟩
  obtain ⟨x, hx⟩ : ∃ x, xs[0]? = some x := ⟨_, List.getElem?_eq_getElem (by omega)⟩
  obtain ⟨⟨v, k, er⟩, hr⟩ : ∃ r, rdNum ((xs.take e_).drop 1) = r := ⟨_, rfl⟩
  have hk := rdNum_k ((xs.take e_).drop 1)
  have hre := rdNum_e ((xs.take e_).drop 1)
  rw [hr] at hk hre
  simp only [List.length_drop, List.length_take, hl] at hk hre
  have hsr : sum32 xs = res ↔ q = s := by
    have := sum_res (xs.take e_) x0 x1 x2 x3
    rw [← h4, List.take_append_drop, hs, hq] at this
    exact this.symm
  have hE : opE xs = if ¬ q = s then 50 else if ¬ x = 83 then 11 else if ¬ er = 0 then 11 else if ¬ v = e_ - (1 + k) ∨ 4096 < v then 11 else 0 := by
    unfold opE
    rw [if_neg (by omega), if_neg (by omega), hl, he_, hr]
    simp only [hsr, hx, Option.some.injEq]
  have hB : opE xs = 0 → opB xs = (xs.take e_).drop (1 + k) := fun h => by unfold opB; rw [if_pos h, hl, he_, hr]
  have K1 := Lib.hid (fun W h0 h1 h2 h3 => by have := ReadFixed_four (cap - e_) 4 b (off + e_) x0 x1 x2 x3 W (Nat.le_refl _) h0 h1 h2 h3; rw [rdF_w4, hq] at this; exact this)
  have hT : ∀ W, Below w.heap.size w W → Byt W W.heap.size (some ⟨b, off, none⟩) e_ (xs.take e_) := fun W hW => ((hx0.below hW).take (by omega)).more hW.size
  have K2 := Lib.hid (fun W (hW : Below w.heap.size w W) => by have := Sum_any e_ e_ _ _ W (by unfold maxLen; omega) (hT W hW); rw [hs] at this; exact this)
  have hD : ∀ W, Below w.heap.size w W → Byt W W.heap.size (some ⟨b, off + 1, none⟩) (e_ - 1) ((xs.take e_).drop 1) := fun W hW => by
    have h := hT W hW
    refine ⟨by rw [List.length_map, List.length_drop, h.len, Nat.mul_one], fun hp => ⟨b, off + 1, rfl, ?_, fun j hj => ?_⟩⟩
    · obtain ⟨b', _, _, ha, hb, _⟩ := h.at_ (k := 0) (by omega)
      cases ha; exact hb
    · simp only [List.length_map, List.length_drop, h.len] at hj
      obtain ⟨b', off', y, ha, _, hy, hc⟩ := h.at_ (k := 1 + j) (by omega)
      cases ha
      obtain ⟨_, hy'⟩ := List.getElem?_eq_some_iff.1 hy
      rw [show off + 1 + j = off + (1 + j) by omega, hc]
      simp only [List.getElem_map, List.getElem_drop, bv]
      rw [hy']
  have K3 := Lib.hid (fun W (hW : Below w.heap.size w W) => by have := ReadNum_any _ (e_ - 1) (e_ - 1) _ _ W (by unfold maxLen; omega) (Nat.le_refl _) (hD W hW); rw [hr] at this; unfold tup3 at this; exact this)
  obtain ⟨x', y', hx2, hx3⟩ : ∃ (x' : Nat) (_ : x' < 256), (x.toNat = x') ∧ (x = 83 ↔ x' = 83) := ⟨x.toNat, x.toNat_lt, rfl, ⟨fun h => by subst h; rfl, fun h => UInt8.toNat_inj.1 h⟩⟩
  have hC : ∀ W, Below w.heap.size w W → W.cell? ⟨b, off, none⟩ = some (.int .u8 (x' : Int)) := fun W hW => by
    obtain ⟨b', off', y, ha, _, hy, hc⟩ := (hT W hW).at_ (k := 0) (by omega)
    cases ha
    rw [List.getElem?_take, if_pos (by omega), hx] at hy
    cases hy
    rw [← hx2]; exact hc
  replace hC := Lib.hid hC
  replace hT := Lib.hid hT
  replace hE := Lib.hid hE
  replace hB := Lib.hid hB
  have hsub : (n : Int) - 4 = (e_ : Int) := by omega
  have he3 : 2 ≤ e_ := by omega
  have he4 : e_ ≤ 4099 := by omega
  have hk' : k ≤ e_ - 1 := by omega
  have s3 : ∀ (k : IntKind) (W : World), (Instr.slice 22 (.slice (some ⟨b, off, none⟩) e_ e_) (some (.int k 1)) none none).run Try.prog W = .ok (.slice (some ⟨b, off + 1, none⟩) (e_ - 1) (e_ - 1)) W := fun k W => cut_l Try.underlying22 (elem_info elB) b off e_ e_ 1 k _ rfl (by omega) (by omega) W
  clear hk hx hr hs hq hD hsr h4 hcell hl hx2 y' hx0 he_
  go_enter Try.func10, Try.ntmps10
  go_wp2_with fail
  refine (K1.out w c0 c1 c2 c3).mono ?_
  rintro e w1 ⟨rfl, hb1⟩
  clear c0 c1 c2 c3 K1
  go_wp2_with fail
  refine (K2.out w1 hb1).mono ?_
  rintro e w2 ⟨rfl, hb2⟩
  have hb02 := hb1.trans (hb2.mono hb1.size)
  clear K2 hb2
  by_cases h1 : q = s
  · subst h1
    have t3 : ((q : Int) != (q : Int)) = false := by simp
    have a1 := hC.out w2 hb02
    by_cases h2 : x' = 83
    · subst h2
      go_wp2_with fail
      have hY2 := hT.out w2 hb02
      refine (K3.out w2 hb02).mono ?_
      rintro e w3 ⟨rfl, rfl⟩
      clear K3 hC
      by_cases h3 : er = 0
      · subst h3
        obtain ⟨A', f1, f2⟩ := cut3 (P := Try.prog) Try.underlying22 (elem_info elB) (some ⟨b, off, none⟩) e_ e_ (1 + k) e_ (by omega) (Nat.le_refl _)
        obtain ⟨m, hm⟩ : ∃ m, e_ - (1 + k) = m := ⟨_, rfl⟩
        have f3 := f2 w2 w2.heap.size _ (Nat.le_refl _) hY2
        rw [hm] at f1 f3
        have s4 := fun kl kh km W => f1 kl kh km (1 + (k : Int)) (e_ : Int) (e_ : Int) W (by omega) rfl rfl
        have f4 : Byt w2 w2.heap.size A' m ((xs.take e_).drop (1 + k)) := by
          rw [Nat.mul_one, Nat.mul_one, ← List.map_drop, ← List.map_take, List.take_of_length_le (by have := hY2.len; rw [List.length_drop]; omega)] at f3
          exact f3
        have f4 := Lib.hid f4
        have hm' : m ≤ 4098 := by omega
        clear f1 f2 f3
        by_cases h4 : v = m
        · subst h4
          have t5 : ((v : Int) != (v : Int)) = false := by simp
          by_cases h5 : 4096 < v
          · have HP := Lib.hid (open_no (xs := xs) (k := 11) (by rw [hE.out, if_neg (by simp), if_neg (by simp [hx3]), if_neg (by simp), if_pos (.inr h5)]) (by decide) hb02 11 rfl)
            have t6 : (4096 : Int) < (v : Int) := by omega
            clear hE hB hx3 hre hY2 hm
            go_wp2
            go_ret2
            exact HP.out
          · have hz : opE xs = 0 := by rw [hE.out, if_neg (by simp), if_neg (by simp [hx3]), if_neg (by simp), if_neg (by omega)]
            have hzB := Lib.hid (hB.out hz)
            have hz := Lib.hid hz
            have t6 : ¬ (4096 : Int) < (v : Int) := by omega
            clear hE hB hx3 hre hY2 hm
            go_wp2_with fail
            refine (Clone_any _ _ _ _ _ w2 f4.out (Nat.le_refl _) (by omega)).mono ?_
            rintro e w3 ⟨A2, c2, rfl, ho, hb3⟩
            have HP : OpenP xs w (.returned (.tuple #[.slice A2 v c2, .int .i64 0])) w3 := by
              refine ⟨_, _, _, _, rfl, by rw [hz.out]; rfl, ?_, hb02.trans (hb3.mono hb02.size)⟩
              rw [hzB.out]
              exact ⟨own_base ho.out.1 hb02.size, ho.out.2⟩
            have HP := Lib.hid HP
            clear ho hb3 f4
            go_wp2
            go_ret2
            exact HP.out
        · have t5 : ((v : Int) != (m : Int)) = true := by simp; omega
          have HP := Lib.hid (open_no (xs := xs) (k := 11) (by rw [hE.out, if_neg (by simp), if_neg (by simp [hx3]), if_neg (by simp), if_pos (.inl (by omega))]) (by decide) hb02 11 rfl)
          clear hE hB hx3 hre hY2 hm
          go_wp2
          go_ret2
          exact HP.out
      · have t5 : ((er : Int) != 0) = true := by simp; omega
        have HP := Lib.hid (open_no (xs := xs) (k := 11) (by rw [hE.out, if_neg (by simp), if_neg (by simp [hx3]), if_pos h3]) (by decide) hb02 11 rfl)
        clear hE hB hx3 hre hY2
        go_wp2
        go_ret2
        exact HP.out
    · have t4 : ((x' : Int) != 83) = true := by simp; omega
      have HP := Lib.hid (open_no (xs := xs) (k := 11) (by rw [hE.out, if_neg (by simp), if_pos (fun h => h2 (hx3.1 h))]) (by decide) hb02 11 rfl)
      clear hE hB hx3 hre hC
      go_wp2
      go_ret2
      exact HP.out
  · have t3 : ((q : Int) != (s : Int)) = true := by simp; omega
    have HP := Lib.hid (open_no (xs := xs) (k := 50) (by rw [hE.out, if_pos h1]) (by decide) hb02 50 rfl)
    clear hE hB hx3 hre
    go_wp2
    go_ret2
    exact HP.out

theorem Open_any (B cap n : Nat) (A : Option Addr) (xs : List UInt8) (w : World) (hx0 : Byt w B A n xs) (hB : B ≤ w.heap.size) (hcap : n ≤ cap) :
    Calls Try.prog 10 #[.slice A n cap] w (OpenP xs w) := by
  by_cases h : 4103 < n ∨ n < 6
  · exact Open_out cap n A xs w hx0.len h
  · obtain ⟨b, off, x, rfl, _⟩ := hx0.at_ (k := 0) (by omega)
    exact Open_in cap n b off xs w (hx0.more hB) hcap (by omega) (by omega)
end Go.Proofs.Ytpeemmcaecghjaa
