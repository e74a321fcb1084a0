/-
  No page is saved ahead of its place in the log; what was put last is what is told, and what is saved in the end.
  Conditions: none beyond each law's own.
-/
import Derived.Test.YtkekaemfokmhdaaCaR
import Derived.Test.YtkekaemfokmhdaaLRule
namespace Go.Proofs.Ytkekaemfokmhdaa
set_option linter.unusedVariables false
set_option linter.unusedSimpArgs false
abbrev gt {α : Type} [Inhabited α] (l : List α) (i : Nat) : α := List.getD l i default
theorem gt_set {α : Type} [Inhabited α] {l : List α} {i j : Nat} {v : α} (hi : i < l.length) : gt (List.set l i v) j = if j = i then v else gt l j := by
  unfold gt
  rw [List.getD_eq_getElem?_getD, List.getD_eq_getElem?_getD]
  by_cases h : j = i
  · rw [if_pos h, h, List.getElem?_set_self hi]; rfl
  · rw [if_neg h, List.getElem?_set_ne (Ne.symm h)]
/-- what is safe behind some calls -/
def lg : List CallD → Nat → Nat
  | [], m => m
  | x :: q, m => lg q (if x.xKind = 3 then max m x.xLsn else m)
theorem lg_app : ∀ (a c : List CallD) (m : Nat), lg (a ++ c) m = lg c (lg a m)
  | [], _, _ => rfl
  | _ :: a, c, _ => lg_app a c _
/-- new calls keep the rule; none saves page i -/
def OkN (i : Nat) (ls : List Nat) (nw : List (List UInt8)) : Nat → List CallD → Prop
  | _, [] => True
  | m, x :: q => (x.xKind = 2 → Int.toNat x.xId ≠ i ∧ gt ls (Int.toNat x.xId) ≤ m ∧ x.xBytes = gt nw (Int.toNat x.xId)) ∧ OkN i ls nw (if x.xKind = 3 then max m x.xLsn else m) q
theorem okn_app {i : Nat} {ls : List Nat} {nw : List (List UInt8)} : ∀ {a c : List CallD} {m : Nat}, OkN i ls nw m a → OkN i ls nw (lg a m) c → OkN i ls nw m (a ++ c)
  | [], _, _, _, h => h
  | _ :: a, c, m, h1, h2 => ⟨h1.1, okn_app h1.2 h2⟩
theorem okn_set {i : Nat} {ls : List Nat} {nw : List (List UInt8)} {v : Nat} {t : List UInt8} (h1 : i < ls.length) (h2 : i < nw.length) : ∀ {a : List CallD} {m : Nat}, OkN i ls nw m a → OkN i (List.set ls i v) (List.set nw i t) m a
  | [], _, _ => trivial
  | x :: a, m, h => ⟨fun e => by
      obtain ⟨k1, k2, k3⟩ := h.1 e
      rw [gt_set h1, gt_set h2, if_neg k1, if_neg k1]
      exact ⟨k1, k2, k3⟩, okn_set h1 h2 h.2⟩
/-- what a law's own look over the calls asks -/
def OkQ (s : Nat) (ls : List Nat) (nw : List (List UInt8)) : List CallD → Nat → Nat → Prop
  | [], _, _ => True
  | x :: q, m, i => (x.xKind = 2 → s ≤ i → gt ls (Int.toNat x.xId) ≤ m ∧ x.xBytes = gt nw (Int.toNat x.xId)) ∧ OkQ s ls nw q (if x.xKind = 3 then max m x.xLsn else m) (i + 1)
theorem okq_new {j s : Nat} {ls : List Nat} {nw : List (List UInt8)} : ∀ {a : List CallD} {m i : Nat}, OkN j ls nw m a → OkQ s ls nw a m i
  | [], _, _, _ => trivial
  | _ :: a, _, _, h => ⟨fun e _ => (h.1 e).2, okq_new h.2⟩
theorem okq_old {j s : Nat} {ls : List Nat} {nw : List (List UInt8)} {c : List CallD} : ∀ {a : List CallD} {m i : Nat}, i + a.length ≤ s → OkN j ls nw (lg a m) c → OkQ s ls nw (a ++ c) m i
  | [], _, _, _, h => okq_new h
  | _ :: a, m, i, hs, h => ⟨fun _ h2 => by simp only [List.length_cons] at hs; omega, okq_old (by simp only [List.length_cons] at hs; omega) h⟩
theorem chk3 (s : Nat) (ls : List Nat) (nw : List (List UInt8)) (c : CacheT) (b : BackT) : ∀ (q : List CallD) (m i : Nat), OkQ s ls nw q m i → w10_CacheRule_L3 s ls nw c b q m i = .inl ()
  | [], _, _, _ => by rw [w10_CacheRule_L3]
  | x :: q, m, i, h => by
    have ih := chk3 s ls nw c b q _ _ h.2
    rw [w10_CacheRule_L3]
    by_cases c1 : x.xKind = 3
    · rw [if_pos c1] at ih
      rw [if_pos c1, ih, ite_self]
    · rw [if_neg c1] at ih
      rw [if_neg c1, ih]
      by_cases c2 : ((i : Nat) : Int) ≥ ((s : Nat) : Int)
      · rw [if_pos c2]
        by_cases c3 : x.xKind = 2
        · obtain ⟨k1, k2⟩ := h.1 c3 (by omega)
          rw [if_pos c3]
          simp only [bnd_eq]
          rw [if_neg (by show ¬ ((gt ls (Int.toNat x.xId) : Nat) : Int) > _; omega), if_neg (fun q => q k2)]
        · rw [if_neg c3]
      · rw [if_neg c2]
theorem chk4 (s : Nat) (ls : List Nat) (nw : List (List UInt8)) (c : CacheT) (b : BackT) : ∀ (q : List CallD) (m i : Nat), OkQ s ls nw q m i → w10_CacheRule_L4 s ls nw c b q m i = .inl ()
  | [], _, _, _ => by rw [w10_CacheRule_L4]
  | x :: q, m, i, h => by
    have ih := chk4 s ls nw c b q _ _ h.2
    rw [w10_CacheRule_L4]
    by_cases c1 : x.xKind = 3
    · rw [if_pos c1] at ih
      rw [if_pos c1, ih, ite_self]
    · rw [if_neg c1] at ih
      rw [if_neg c1, ih]
      by_cases c2 : ((i : Nat) : Int) ≥ ((s : Nat) : Int)
      · rw [if_pos c2]
        by_cases c3 : x.xKind = 2
        · obtain ⟨k1, k2⟩ := h.1 c3 (by omega)
          rw [if_pos c3]
          simp only [bnd_eq]
          rw [if_neg (by show ¬ ((gt ls (Int.toNat x.xId) : Nat) : Int) > _; omega), if_neg (fun q => q k2)]
        · rw [if_neg c3]
      · rw [if_neg c2]
theorem chk5 (s : Nat) (ls : List Nat) (nw : List (List UInt8)) (c : CacheT) (b : BackT) : ∀ (q : List CallD) (m i : Nat), OkQ s ls nw q m i → w10_CacheRule_L5 s ls nw c b q m i = .inl ()
  | [], _, _, _ => by rw [w10_CacheRule_L5]
  | x :: q, m, i, h => by
    have ih := chk5 s ls nw c b q _ _ h.2
    rw [w10_CacheRule_L5]
    by_cases c1 : x.xKind = 3
    · rw [if_pos c1] at ih
      rw [if_pos c1, ih, ite_self]
    · rw [if_neg c1] at ih
      rw [if_neg c1, ih]
      by_cases c2 : ((i : Nat) : Int) ≥ ((s : Nat) : Int)
      · rw [if_pos c2]
        by_cases c3 : x.xKind = 2
        · obtain ⟨k1, k2⟩ := h.1 c3 (by omega)
          rw [if_pos c3]
          simp only [bnd_eq]
          rw [if_neg (by show ¬ ((gt ls (Int.toNat x.xId) : Nat) : Int) > _; omega), if_neg (fun q => q k2)]
        · rw [if_neg c3]
      · rw [if_neg c2]
theorem chk2 (s : Nat) (ls : List Nat) (nw : List (List UInt8)) (o : OpD) (v : Nat) (c : CacheT) (b : BackT) : ∀ (q : List CallD) (m i : Nat), OkQ s (List.set ls (1 + ((Int.toNat ((remI o.xN 6) + 6)) % 6)) (max v o.xLsn)) (List.set nw (1 + ((Int.toNat ((remI o.xN 6) + 6)) % 6)) o.xText) q m i → w10_CacheRule_L2 s ls nw o v c b q m i = .inl ()
  | [], _, _, _ => by rw [w10_CacheRule_L2]
  | x :: q, m, i, h => by
    have ih := chk2 s ls nw o v c b q _ _ h.2
    rw [w10_CacheRule_L2]
    by_cases c1 : x.xKind = 3
    · rw [if_pos c1] at ih
      rw [if_pos c1, ih, ite_self]
    · rw [if_neg c1] at ih
      rw [if_neg c1, ih]
      by_cases c2 : ((i : Nat) : Int) ≥ ((s : Nat) : Int)
      · rw [if_pos c2]
        by_cases c3 : x.xKind = 2
        · obtain ⟨k1, k2⟩ := h.1 c3 (by omega)
          rw [if_pos c3]
          simp only [bnd_eq]
          rw [if_neg (by show ¬ ((gt (List.set ls (1 + ((Int.toNat ((remI o.xN 6) + 6)) % 6)) (max v o.xLsn)) (Int.toNat x.xId) : Nat) : Int) > _; omega), if_neg (fun q => q k2)]
        · rw [if_neg c3]
      · rw [if_neg c2]
/-! ### what always holds -/
structure R (k n : Nat) (l : List placeT) (z : Int) (ls : List Nat) (nw : List (List UInt8)) (b : BackT) : Prop where
  len : l.length = n
  z0 : 0 ≤ z
  z1 : z < (n : Int)
  ln : ls.length = 7
  nn : nw.length = 7
  ids : ∀ p ∈ l, p.xfull = true → 1 ≤ p.xid ∧ p.xid ≤ 6
  dfl : ∀ p ∈ l, p.xdirty = true → p.xfull = true
  dif : l.Pairwise Dif
  pins : ∀ p ∈ l, 0 ≤ p.xpins ∧ p.xpins ≤ (k : Int)
  at_ : ∀ p ∈ l, p.xfull = true → p.xbytes.ls = gt nw (Int.toNat p.xid) ∧ (p.xdirty = true → gt ls (Int.toNat p.xid) ≤ max b.xLog p.xlsn)
  off : ∀ i : Nat, 1 ≤ i → i ≤ 6 → (∀ p ∈ l, hit (i : Int) p = true → p.xdirty = false) → Option.getD (mget b.xPages (i : Int)) [] = gt nw i ∧ gt ls i ≤ b.xLog
  log : b.xLog = lg b.xCalls 0
  good : Good b
theorem R.more {k k' n : Nat} {l : List placeT} {z : Int} {ls : List Nat} {nw : List (List UInt8)} {b : BackT} (h : R k n l z ls nw b) (hk : k ≤ k') : R k' n l z ls nw b :=
  ⟨h.len, h.z0, h.z1, h.ln, h.nn, h.ids, h.dfl, h.dif, fun p hp => by have := h.pins p hp; omega, h.at_, h.off, h.log, h.good⟩
theorem R.tch {k n : Nat} {l m : List placeT} {z z' : Int} {ls : List Nat} {nw : List (List UInt8)} {b : BackT} (h : R k n l z ls nw b) (ht : Tch l m) (hz : 0 ≤ z' ∧ z' < (n : Int)) : R k n m z' ls nw b := by
  refine ⟨by rw [ht.len]; exact h.len, hz.1, hz.2, h.ln, h.nn, ?_, ?_, ht.dif h.dif, ?_, ?_, ?_, h.log, h.good⟩
  · intro p hp hf
    obtain ⟨q, hq, e⟩ := ht.mem hp
    obtain ⟨f1, f2, f3, f4, f5, f6⟩ := unt_f e
    rw [← f2]; exact h.ids q hq (f1.trans hf)
  · intro p hp hf
    obtain ⟨q, hq, e⟩ := ht.mem hp
    obtain ⟨f1, f2, f3, f4, f5, f6⟩ := unt_f e
    rw [← f1]; exact h.dfl q hq (f5.trans hf)
  · intro p hp
    obtain ⟨q, hq, e⟩ := ht.mem hp
    obtain ⟨f1, f2, f3, f4, f5, f6⟩ := unt_f e
    rw [← f4]; exact h.pins q hq
  · intro p hp hf
    obtain ⟨q, hq, e⟩ := ht.mem hp
    obtain ⟨f1, f2, f3, f4, f5, f6⟩ := unt_f e
    rw [← f2, ← f3, ← f5, ← f6]; exact h.at_ q hq (f1.trans hf)
  · intro i h1 h6 hn
    refine h.off i h1 h6 fun p hp hh => ?_
    obtain ⟨q, hq, e⟩ := ht.mem2 hp
    obtain ⟨f1, f2, f3, f4, f5, f6⟩ := unt_f e
    rw [← f5]; exact hn q hq (by rw [hit_unt e]; exact hh)
/-- a page's pins become others -/
theorem R.turn {k n : Nat} {a c : List placeT} {x y : placeT} {z : Int} {ls : List Nat} {nw : List (List UInt8)} {b : BackT} (h : R k n (a ++ x :: c) z ls nw b) (e1 : y.xfull = x.xfull) (e2 : y.xid = x.xid) (e3 : y.xbytes.ls = x.xbytes.ls) (e5 : y.xdirty = x.xdirty) (e6 : y.xlsn = x.xlsn) {k' : Nat} (hk : k ≤ k') (e4 : 0 ≤ y.xpins ∧ y.xpins ≤ (k' : Int)) : R k' n (a ++ y :: c) z ls nw b := by
  have hx : x ∈ a ++ x :: c := mem_mid.2 (.inl rfl)
  have hy : y ∈ a ++ y :: c := mem_mid.2 (.inl rfl)
  refine ⟨by rw [← h.len]; simp, h.z0, h.z1, h.ln, h.nn, ?_, ?_, ?_, ?_, ?_, ?_, h.log, h.good⟩
  · intro p hp hf
    rcases mem_mid.1 hp with e | e
    · rw [e, e2]; rw [e, e1] at hf; exact h.ids x hx hf
    · exact h.ids p (mem_mid.2 (.inr e)) hf
  · intro p hp hf
    rcases mem_mid.1 hp with e | e
    · rw [e, e1]; rw [e, e5] at hf; exact h.dfl x hx hf
    · exact h.dfl p (mem_mid.2 (.inr e)) hf
  · refine dif_mid h.dif fun p hp => ?_
    obtain ⟨d1, d2⟩ := dif_of h.dif hp
    exact ⟨fun u v => by rw [e2]; exact d1 u (e1 ▸ v), fun u v => by rw [e2]; exact d2 (e1 ▸ u) v⟩
  · intro p hp
    rcases mem_mid.1 hp with e | e
    · rw [e]; exact e4
    · have := h.pins p (mem_mid.2 (.inr e)); omega
  · intro p hp hf
    rcases mem_mid.1 hp with e | e
    · rw [e, e2, e3, e5, e6]; rw [e, e1] at hf; exact h.at_ x hx hf
    · exact h.at_ p (mem_mid.2 (.inr e)) hf
  · intro i h1 h6 hn
    refine h.off i h1 h6 fun p hp hh => ?_
    rcases mem_mid.1 hp with e | e
    · rw [e, ← e5]; exact hn y hy (by unfold hit at hh ⊢; rw [e1, e2]; rw [e] at hh; exact hh)
    · exact hn p (mem_mid.2 (.inr e)) hh
def clP (x : placeT) : placeT := placeT.mk x.xfull x.xid (Ll.mk x.xbytes.ls) x.xpins x.xtouched false x.xlsn
def wbc (b : BackT) (x : placeT) : List CallD := (if b.xLog < x.xlsn then [CallD.mk 3 0 x.xlsn []] else []) ++ [CallD.mk 2 x.xid 0 x.xbytes.ls]
def wbB (b : BackT) (x : placeT) : BackT := BackT.mk (mput b.xPages x.xid x.xbytes.ls) (max b.xLog x.xlsn) (b.xCalls ++ wbc b x) b.xLeft
theorem wb_dirty {b : BackT} (h : Good b) {x : placeT} (d : x.xdirty = true) : wb b x = (0, wbB b x) := by
  unfold wb wbB wbc
  rw [if_pos d, force_good h, if_pos rfl, show r10_Back_Safe b = b.xLog from rfl]
  by_cases c : ((b.xLog : Nat) : Int) < ((x.xlsn : Nat) : Int)
  · rw [if_pos c, if_pos (by omega), save_good (h.same _ _)]
    simp
  · rw [if_neg c, if_neg (by omega), save_good h, Nat.max_eq_left (by omega)]
    rfl
theorem wb_clean (b : BackT) {x : placeT} (d : ¬ x.xdirty = true) : wb b x = (0, b) := by
  unfold wb; rw [if_neg d]
theorem lg_wbc (b : BackT) (x : placeT) : lg (wbc b x) b.xLog = max b.xLog x.xlsn := by
  unfold wbc
  by_cases c : b.xLog < x.xlsn
  · rw [if_pos c]; rfl
  · rw [if_neg c, Nat.max_eq_left (by omega)]; rfl
/-- a page written back -/
theorem R.wrote {k n : Nat} {a c : List placeT} {x : placeT} {z : Int} {ls : List Nat} {nw : List (List UInt8)} {b : BackT} (h : R k n (a ++ x :: c) z ls nw b) (d : x.xdirty = true) : R k n (a ++ clP x :: c) z ls nw (wbB b x) := by
  have hx : x ∈ a ++ x :: c := mem_mid.2 (.inl rfl)
  have hy : clP x ∈ a ++ clP x :: c := mem_mid.2 (.inl rfl)
  have hf := h.dfl x hx d
  have h16 := h.ids x hx hf
  have hat := h.at_ x hx hf
  refine ⟨by rw [← h.len]; simp, h.z0, h.z1, h.ln, h.nn, ?_, ?_, ?_, ?_, ?_, ?_, ?_, h.good.put _ _ _ _⟩
  · intro p hp hf
    rcases mem_mid.1 hp with e | e
    · rw [e]; exact h16
    · exact h.ids p (mem_mid.2 (.inr e)) hf
  · intro p hp hf
    rcases mem_mid.1 hp with e | e
    · rw [e] at hf; cases hf
    · exact h.dfl p (mem_mid.2 (.inr e)) hf
  · exact dif_mid h.dif fun p hp => dif_of h.dif hp
  · intro p hp
    rcases mem_mid.1 hp with e | e
    · rw [e]; exact h.pins x hx
    · exact h.pins p (mem_mid.2 (.inr e))
  · intro p hp hf
    rcases mem_mid.1 hp with e | e
    · rw [e]; exact ⟨hat.1, fun f => by cases f⟩
    · obtain ⟨k1, k2⟩ := h.at_ p (mem_mid.2 (.inr e)) hf
      refine ⟨k1, fun f => ?_⟩
      have := k2 f
      show _ ≤ max (max b.xLog x.xlsn) p.xlsn
      omega
  · intro i h1 h6 hn
    show Option.getD (mget (mput b.xPages x.xid x.xbytes.ls) (i : Int)) [] = _ ∧ _ ≤ max b.xLog x.xlsn
    rw [mget_put]
    by_cases e : x.xid = (i : Int)
    · have k1 := hat.1
      have k2 := hat.2 d
      rw [e, Int.toNat_natCast] at k1 k2
      rw [if_pos e]
      exact ⟨k1, k2⟩
    · rw [if_neg e]
      have := h.off i h1 h6 fun p hp hh => by
        rcases mem_mid.1 hp with r | r
        · rw [r] at hh; exact absurd (hit_t.1 hh).2 e
        · exact hn p (mem_mid.2 (.inr r)) hh
      exact ⟨this.1, by omega⟩
  · show max b.xLog x.xlsn = lg (b.xCalls ++ wbc b x) 0
    rw [lg_app, ← h.log, lg_wbc]
theorem R.okw {k n : Nat} {a c : List placeT} {x : placeT} {z : Int} {ls : List Nat} {nw : List (List UInt8)} {b : BackT} (h : R k n (a ++ x :: c) z ls nw b) (d : x.xdirty = true) {i : Nat} (hi : hit (i : Int) x = false) : OkN i ls nw b.xLog (wbc b x) := by
  have hx : x ∈ a ++ x :: c := mem_mid.2 (.inl rfl)
  have hf := h.dfl x hx d
  have h16 := h.ids x hx hf
  obtain ⟨k1, k2⟩ := h.at_ x hx hf
  have k3 := k2 d
  have k4 := hit_f.1 hi hf
  unfold wbc
  by_cases c : b.xLog < x.xlsn
  · rw [if_pos c]
    exact ⟨fun e => (by cases e), fun _ => ⟨by show Int.toNat x.xid ≠ i; omega, k3, k1⟩, trivial⟩
  · rw [if_neg c]
    exact ⟨fun _ => ⟨by show Int.toNat x.xid ≠ i; omega, by show gt ls (Int.toNat x.xid) ≤ b.xLog; omega, k1⟩, trivial⟩
/-- a page that is not dirty goes -/
theorem R.zero {k n : Nat} {a c : List placeT} {x : placeT} {z : Int} {ls : List Nat} {nw : List (List UInt8)} {b : BackT} (h : R k n (a ++ x :: c) z ls nw b) (d : x.xdirty = false) : R k n (a ++ zeroP :: c) z ls nw b := by
  refine ⟨by rw [← h.len]; simp, h.z0, h.z1, h.ln, h.nn, ?_, ?_, ?_, ?_, ?_, ?_, h.log, h.good⟩
  · intro p hp hf
    rcases mem_mid.1 hp with e | e
    · rw [e] at hf; cases hf
    · exact h.ids p (mem_mid.2 (.inr e)) hf
  · intro p hp hf
    rcases mem_mid.1 hp with e | e
    · rw [e] at hf; cases hf
    · exact h.dfl p (mem_mid.2 (.inr e)) hf
  · exact dif_mid h.dif fun p hp => ⟨fun _ v => (by cases v), fun u => (by cases u)⟩
  · intro p hp
    rcases mem_mid.1 hp with e | e
    · rw [e]; exact ⟨Int.le_refl _, by show (0 : Int) ≤ _; omega⟩
    · exact h.pins p (mem_mid.2 (.inr e))
  · intro p hp hf
    rcases mem_mid.1 hp with e | e
    · rw [e] at hf; cases hf
    · exact h.at_ p (mem_mid.2 (.inr e)) hf
  · intro i h1 h6 hn
    refine h.off i h1 h6 fun p hp hh => ?_
    rcases mem_mid.1 hp with e | e
    · rw [e]; exact d
    · exact hn p (mem_mid.2 (.inr e)) hh
/-- an empty place gets a page -/
theorem R.load {k n : Nat} {a c : List placeT} {x : placeT} {z : Int} {ls : List Nat} {nw : List (List UInt8)} {b : BackT} (h : R k n (a ++ x :: c) z ls nw b) (hx0 : x.xfull = false) {i : Nat} (h1 : 1 ≤ i) (h6 : i ≤ 6) (hn : ∀ p, p ∈ a ∨ p ∈ c → hit (i : Int) p = false) : Option.getD (mget b.xPages (i : Int)) [] = gt nw i ∧ R (k + 1) n (a ++ newP (i : Int) (Option.getD (mget b.xPages (i : Int)) []) :: c) z ls nw (BackT.mk b.xPages b.xLog (b.xCalls ++ [CallD.mk 1 (i : Int) 0 []]) b.xLeft) := by
  have hof := h.off i h1 h6 fun p hp hh => by
    rcases mem_mid.1 hp with e | e
    · rw [e] at hh; rw [(hit_t.1 hh).1] at hx0; cases hx0
    · rw [hn p e] at hh; cases hh
  refine ⟨hof.1, by rw [← h.len]; simp, h.z0, h.z1, h.ln, h.nn, ?_, ?_, ?_, ?_, ?_, ?_, ?_, h.good.same _ _⟩
  · intro p hp hf
    rcases mem_mid.1 hp with e | e
    · rw [e]; exact ⟨by show (1 : Int) ≤ (i : Int); omega, by show (i : Int) ≤ 6; omega⟩
    · exact h.ids p (mem_mid.2 (.inr e)) hf
  · intro p hp hf
    rcases mem_mid.1 hp with e | e
    · rw [e] at hf; cases hf
    · exact h.dfl p (mem_mid.2 (.inr e)) hf
  · refine dif_mid h.dif fun p hp => ?_
    exact ⟨fun u _ => hit_f.1 (hn p hp) u, fun _ v => Ne.symm (hit_f.1 (hn p hp) v)⟩
  · intro p hp
    rcases mem_mid.1 hp with e | e
    · rw [e]
      have : (newP (i : Int) (Option.getD (mget b.xPages (i : Int)) [])).xpins = 1 := by
        show IntKind.i64.wrap (0 + 1) = 1
        rw [IntWalk.i64_in _ (by omega)]; rfl
      rw [this]; omega
    · have := h.pins p (mem_mid.2 (.inr e)); omega
  · intro p hp hf
    rcases mem_mid.1 hp with e | e
    · rw [e]
      exact ⟨by show _ = gt nw (Int.toNat (i : Int)); rw [Int.toNat_natCast]; exact hof.1, fun f => by cases f⟩
    · exact h.at_ p (mem_mid.2 (.inr e)) hf
  · intro j j1 j6 hj
    refine h.off j j1 j6 fun p hp hh => ?_
    rcases mem_mid.1 hp with e | e
    · rw [e] at hh; rw [(hit_t.1 hh).1] at hx0; cases hx0
    · exact hj p (mem_mid.2 (.inr e)) hh
  · show b.xLog = lg (b.xCalls ++ [CallD.mk 1 (i : Int) 0 []]) 0
    rw [lg_app, ← h.log]; rfl
/-- a page changed -/
theorem R.put {k n : Nat} {a c : List placeT} {x : placeT} {z : Int} {ls : List Nat} {nw : List (List UInt8)} {b : BackT} (h : R k n (a ++ x :: c) z ls nw b) {i : Nat} (h1 : 1 ≤ i) (h6 : i ≤ 6) (hx : hit (i : Int) x = true) (t : List UInt8) (m : Nat) : R k n (a ++ putP x t m :: c) z (List.set ls i (max (gt ls i) m)) (List.set nw i t) b := by
  obtain ⟨x1, x2⟩ := hit_t.1 hx
  have hm : x ∈ a ++ x :: c := mem_mid.2 (.inl rfl)
  have h16 := h.ids x hm x1
  have hl : i < ls.length := by rw [h.ln]; omega
  have hw : i < nw.length := by rw [h.nn]; omega
  have hne : ∀ p, p ∈ a ∨ p ∈ c → p.xfull = true → p.xid ≠ (i : Int) := fun p hp hf => by rw [← x2]; exact (dif_of h.dif hp).1 hf x1
  refine ⟨by rw [← h.len]; simp, h.z0, h.z1, by rw [List.length_set]; exact h.ln, by rw [List.length_set]; exact h.nn, ?_, ?_, ?_, ?_, ?_, ?_, h.log, h.good⟩
  · intro p hp hf
    rcases mem_mid.1 hp with e | e
    · rw [e]; exact h16
    · exact h.ids p (mem_mid.2 (.inr e)) hf
  · intro p hp hf
    rcases mem_mid.1 hp with e | e
    · rw [e]; exact x1
    · exact h.dfl p (mem_mid.2 (.inr e)) hf
  · exact dif_mid h.dif fun p hp => dif_of h.dif hp
  · intro p hp
    rcases mem_mid.1 hp with e | e
    · rw [e]; exact h.pins x hm
    · exact h.pins p (mem_mid.2 (.inr e))
  · intro p hp hf
    rcases mem_mid.1 hp with e | e
    · rw [e]
      have hid : Int.toNat (putP x t m).xid = i := by show Int.toNat x.xid = i; omega
      rw [hid, gt_set hl, gt_set hw, if_pos rfl, if_pos rfl]
      refine ⟨rfl, fun _ => ?_⟩
      show max (gt ls i) m ≤ max b.xLog (if x.xdirty = true then max m x.xlsn else m)
      by_cases d : x.xdirty = true
      · have := (h.at_ x hm x1).2 d
        rw [x2, Int.toNat_natCast] at this
        rw [if_pos d]; omega
      · have := (h.off i h1 h6 fun p hp hh => by
          rcases mem_mid.1 hp with e | e
          · rw [e]; exact Bool.eq_false_iff.2 d
          · exact absurd (hit_t.1 hh).2 (hne p e (hit_t.1 hh).1)).2
        rw [if_neg d]; omega
    · have h3 := hne p e hf
      have h4 := h.ids p (mem_mid.2 (.inr e)) hf
      rw [gt_set hl, gt_set hw, if_neg (by omega), if_neg (by omega)]
      exact h.at_ p (mem_mid.2 (.inr e)) hf
  · intro j j1 j6 hj
    have hji : j ≠ i := fun q => by
      have := hj (putP x t m) (mem_mid.2 (.inl rfl)) (by rw [q]; exact hit_t.2 ⟨x1, x2⟩)
      cases this
    rw [gt_set hl, gt_set hw, if_neg hji, if_neg hji]
    refine h.off j j1 j6 fun p hp hh => ?_
    rcases mem_mid.1 hp with e | e
    · have := (hit_t.1 hh).2
      rw [e, x2] at this
      omega
    · exact hj p (mem_mid.2 (.inr e)) hh
/-- what a Pin does, and keeps -/
theorem R.pin {k n : Nat} {l : List placeT} {z : Int} {ls : List Nat} {nw : List (List UInt8)} {b : BackT} (h : R k n l z ls nw b) (hk : k ≤ 1000) {i : Nat} (h1 : 1 ≤ i) (h6 : i ≤ 6) :
    cache_Cache_Pin (CacheT.mk (Ll.mk l) z) (i : Int) b = ([], 100, CacheT.mk (Ll.mk l) z, b) ∨
    ∃ a x q z' b' new, cache_Cache_Pin (CacheT.mk (Ll.mk l) z) (i : Int) b = (gt nw i, 0, CacheT.mk (Ll.mk (a ++ x :: q)) z', b') ∧ hit (i : Int) x = true ∧ (∀ p ∈ a, hit (i : Int) p = false) ∧ x.xpins > 0 ∧ R (k + 1) n (a ++ x :: q) z' ls nw b' ∧ b'.xCalls = b.xCalls ++ new ∧ OkN i ls nw b.xLog new := by
  have hlen := h.len
  have hw1 : IntKind.i64.wrap (0 + 1) = 1 := by rw [IntWalk.i64_in _ (by omega)]; rfl
  have hnp : ∀ t, (newP (i : Int) t).xpins > 0 := fun t => by show IntKind.i64.wrap (0 + 1) > 0; rw [hw1]; decide
  have hL : ∀ (m : Nat) (c : List CallD), OkN i ls nw m [CallD.mk 1 (i : Int) 0 []] := fun m c => ⟨fun e => (by cases e), trivial⟩
  rcases pin_cases (i : Int) b (l := l) (z := z) (by have := h.z0; have := h.z1; omega) h.z0 (by rw [hlen]; exact h.z1) with ⟨a, x, q, e, u1, u2, u3⟩ | ⟨u0, ⟨a, x, q, e, u1, u2, u3⟩ | ⟨u1, ⟨u2, u3⟩ | ⟨u2, a, x, q, z', u3, u4, u5, u6, u7, u8⟩⟩⟩
  · have hx := hit_t.1 u2
    rw [e] at h
    have hm : x ∈ a ++ x :: q := mem_mid.2 (.inl rfl)
    have hp := h.pins x hm
    have hw : IntKind.i64.wrap (x.xpins + 1) = x.xpins + 1 := IntWalk.i64_in _ (by omega)
    have ht := (h.at_ x hm hx.1).1
    rw [hx.2, Int.toNat_natCast] at ht
    refine .inr ⟨a, pinP x, q, z, b, [], by rw [u3, ht], u2, u1, ?_, h.turn (y := pinP x) (k' := k + 1) rfl rfl rfl rfl rfl (by omega) ?_, (List.append_nil _).symm, trivial⟩
    · show IntKind.i64.wrap (x.xpins + 1) > 0; rw [hw]; omega
    · show 0 ≤ IntKind.i64.wrap (x.xpins + 1) ∧ IntKind.i64.wrap (x.xpins + 1) ≤ _; rw [hw]; omega
  · unfold ld at u3
    rw [load_good h.good (by omega) (by omega), if_pos rfl] at u3
    rw [e] at h u0
    obtain ⟨g1, g2⟩ := h.load u2 h1 h6 fun p hp => u0 p (mem_mid.2 (.inr hp))
    refine .inr ⟨a, _, q, z, _, [CallD.mk 1 (i : Int) 0 []], by rw [u3, ← g1], hit_t.2 ⟨rfl, rfl⟩, fun p hp => u0 p (mem_mid.2 (.inr (.inl hp))), hnp _, g2, rfl, hL _ []⟩
  · exact .inl u3
  · have hm := h.tch u7 (by rw [← hlen]; exact u8)
    have hno := u7.nohit u0
    unfold fin2 at u4
    by_cases d : x.xdirty = true
    · rw [wb_dirty h.good d, if_pos rfl] at u4
      unfold ld at u4
      have hR := (hm.wrote d)
      rw [load_good hR.good (by omega) (by omega), if_pos rfl] at u4
      obtain ⟨g1, g2⟩ := (hR.zero rfl).load rfl h1 h6 fun p hp => hno p (mem_mid.2 (.inr hp))
      refine .inr ⟨a, _, q, z', _, wbc b x ++ [CallD.mk 1 (i : Int) 0 []], by rw [u4, ← g1], hit_t.2 ⟨rfl, rfl⟩, fun p hp => hno p (mem_mid.2 (.inr (.inl hp))), hnp _, g2, List.append_assoc _ _ _, okn_app (hm.okw d (hno x (mem_mid.2 (.inl rfl)))) (hL _ [])⟩
    · rw [wb_clean b d, if_pos rfl] at u4
      unfold ld at u4
      rw [load_good h.good (by omega) (by omega), if_pos rfl] at u4
      obtain ⟨g1, g2⟩ := (hm.zero (Bool.eq_false_iff.2 d)).load rfl h1 h6 fun p hp => hno p (mem_mid.2 (.inr hp))
      refine .inr ⟨a, _, q, z', _, [CallD.mk 1 (i : Int) 0 []], by rw [u4, ← g1], hit_t.2 ⟨rfl, rfl⟩, fun p hp => hno p (mem_mid.2 (.inr (.inl hp))), hnp _, g2, rfl, hL _ []⟩
theorem first_eq {i : Int} : ∀ {a a' : List placeT} {x x' : placeT} {q q' : List placeT}, a ++ x :: q = a' ++ x' :: q' → (∀ p ∈ a, hit i p = false) → (∀ p ∈ a', hit i p = false) → hit i x = true → hit i x' = true → a = a' ∧ x = x' ∧ q = q'
  | [], [], x, x', q, q', e, _, _, _, _ => by
    injection e with e1 e2
    exact ⟨rfl, e1, e2⟩
  | [], y :: a', x, x', q, q', e, _, h2, h3, _ => by
    injection e with e1 e2
    rw [e1, h2 y (.head _)] at h3; cases h3
  | y :: a, [], x, x', q, q', e, h1, _, _, h4 => by
    injection e with e1 e2
    rw [← e1, h1 y (.head _)] at h4; cases h4
  | y :: a, y' :: a', x, x', q, q', e, h1, h2, h3, h4 => by
    injection e with e1 e2
    obtain ⟨k1, k2, k3⟩ := first_eq e2 (fun p hp => h1 p (.tail _ hp)) (fun p hp => h2 p (.tail _ hp)) h3 h4
    exact ⟨by rw [e1, k1], k2, k3⟩
theorem R.unpin {k n : Nat} {a q : List placeT} {x : placeT} {z : Int} {ls : List Nat} {nw : List (List UInt8)} {b : BackT} (h : R k n (a ++ x :: q) z ls nw b) (hk : k ≤ 1001) {i : Nat} (hx : hit (i : Int) x = true) (ha : ∀ p ∈ a, hit (i : Int) p = false) (hp : x.xpins > 0) : cache_Cache_Unpin (CacheT.mk (Ll.mk (a ++ x :: q)) z) (i : Int) b = (0, CacheT.mk (Ll.mk (a ++ decP x :: q)) z, b) ∧ R k n (a ++ decP x :: q) z ls nw b := by
  have hm : x ∈ a ++ x :: q := mem_mid.2 (.inl rfl)
  have hb := h.pins x hm
  have hw : IntKind.i64.wrap (x.xpins - 1) = x.xpins - 1 := IntWalk.i64_in _ (by omega)
  refine ⟨?_, h.turn (y := decP x) (k' := k) rfl rfl rfl rfl rfl (Nat.le_refl _) (by show 0 ≤ IntKind.i64.wrap (x.xpins - 1) ∧ IntKind.i64.wrap (x.xpins - 1) ≤ _; rw [hw]; omega)⟩
  rcases unpin_cases (a ++ x :: q) z (i : Int) b with ⟨u1, u2⟩ | ⟨a', x', q', e, u1, u2, u3⟩
  · rw [u1 x hm] at hx; cases hx
  · obtain ⟨e1, e2⟩ := first_eq e ha u1 hx u2
    obtain ⟨e2, e3⟩ := e2
    subst e1; subst e2; subst e3
    rcases u3 with ⟨u3, u4⟩ | ⟨u3, u4⟩
    · exact u4
    · exact absurd hp u3
theorem R.set {k n : Nat} {a q : List placeT} {x : placeT} {z : Int} {ls : List Nat} {nw : List (List UInt8)} {b : BackT} (h : R k n (a ++ x :: q) z ls nw b) {i : Nat} (hx : hit (i : Int) x = true) (ha : ∀ p ∈ a, hit (i : Int) p = false) (hp : x.xpins > 0) (t : List UInt8) (m : Nat) : cache_Cache_Put (CacheT.mk (Ll.mk (a ++ x :: q)) z) (i : Int) t m b = (0, CacheT.mk (Ll.mk (a ++ putP x t m :: q)) z, b) := by
  have hm : x ∈ a ++ x :: q := mem_mid.2 (.inl rfl)
  rcases put_cases (a ++ x :: q) z (i : Int) t m b with ⟨u1, u2⟩ | ⟨a', x', q', e, u1, u2, u3⟩
  · rw [u1 x hm] at hx; cases hx
  · obtain ⟨e1, e2⟩ := first_eq e ha u1 hx u2
    obtain ⟨e2, e3⟩ := e2
    subst e1; subst e2; subst e3
    rcases u3 with ⟨u3, u4⟩ | ⟨u3, u4⟩
    · exact u4
    · exact absurd hp u3
theorem rule_loop (r : Bool) (n : Nat) : ∀ (ops : List OpD) (k : Nat) (l : List placeT) (z : Int) (ls : List Nat) (nw : List (List UInt8)) (b : BackT), k + ops.length ≤ 1000 → R k n l z ls nw b → ∃ k' l' z' ls' nw' b', w10_CacheRule_L1 r ops b.xCalls.length l z ls nw b = .inl (l', z', nw', b') ∧ R k' n l' z' ls' nw' b'
  | [], k, l, z, ls, nw, b, _, h => ⟨k, l, z, ls, nw, b, by rw [w10_CacheRule_L1], h⟩
  | o :: ops, k, l, z, ls, nw, b, hk, h => by
    obtain ⟨i, hi⟩ : ∃ i, 1 + ((Int.toNat ((remI o.xN 6) + 6)) % 6) = i := ⟨_, rfl⟩
    have h1 : 1 ≤ i := by omega
    have h6 : i ≤ 6 := by omega
    simp only [List.length_cons] at hk
    rw [w10_CacheRule_L1]
    simp only [bnd_eq]
    rcases h.pin (by omega) h1 h6 with g | ⟨a, x, q, z', b', new, g, hx, ha, hp, hR, hc, hn⟩
    · rw [hi, g]
      dsimp only
      rw [if_neg (by decide), chk5 _ ls nw _ _ b.xCalls 0 0 (by have := okq_old (j := 0) (s := b.xCalls.length) (ls := ls) (nw := nw) (c := []) (a := b.xCalls) (m := 0) (i := 0) (by omega) trivial; rw [List.append_nil] at this; exact this), lpS_inl]
      exact rule_loop r n ops (k + 1) _ _ _ _ _ (by omega) (h.more (by omega))
    · have hq0 : OkQ b.xCalls.length ls nw b'.xCalls 0 0 := by
        rw [hc]; exact okq_old (by omega) (by rw [← h.log]; exact hn)
      rw [hi, g]
      dsimp only
      rw [if_pos rfl, if_neg (fun q => q rfl)]
      by_cases c2 : o.xDo = 2
      · rw [if_pos c2, hR.set hx ha hp]
        have hR2 := hR.put h1 h6 hx o.xText o.xLsn
        obtain ⟨v1, v2⟩ := hR2.unpin (by omega) (i := i) hx ha hp
        dsimp only
        rw [if_pos rfl, v1]
        dsimp only
        rw [if_pos rfl, chk2 _ ls nw o _ _ _ b'.xCalls 0 0 (by
          rw [hi, hc]
          exact okq_old (j := i) (by omega) (by rw [← h.log]; exact okn_set (by have := h.ln; omega) (by have := h.nn; omega) hn)), lpS_inl]
        exact rule_loop r n ops (k + 1) _ _ _ _ _ (by omega) v2
      · rw [if_neg c2]
        by_cases c1 : o.xDo = 1
        · rw [if_pos c1, chk3 _ ls nw _ _ b'.xCalls 0 0 hq0, lpS_inl]
          exact rule_loop r n ops (k + 1) _ _ _ _ _ (by omega) hR
        · obtain ⟨v1, v2⟩ := hR.unpin (by omega) hx ha hp
          rw [if_neg c1, v1]
          dsimp only
          rw [if_pos rfl, chk4 _ ls nw _ _ b'.xCalls 0 0 hq0, lpS_inl]
          exact rule_loop r n ops (k + 1) _ _ _ _ _ (by omega) v2
theorem flush_loop (c : CacheT) (k n : Nat) (z : Int) (ls : List Nat) (nw : List (List UInt8)) : ∀ (q pre : List placeT) (b : BackT), R k n (pre ++ q) z ls nw b → (∀ p ∈ pre, p.xdirty = false) → ∃ l' b', cache_Cache_Flush_L0 c q.length pre.length (pre ++ q) b = .inl (l', b') ∧ R k n l' z ls nw b' ∧ ∀ p ∈ l', p.xdirty = false
  | [], pre, b, h, hd => ⟨pre, b, by rw [List.append_nil]; rfl, by rw [List.append_nil] at h; exact h, hd⟩
  | x :: q, pre, b, h, hd => by
    have hg : List.getD (pre ++ x :: q) pre.length default = x := gd pre q x
    rw [List.length_cons, cache_Cache_Flush_L0]
    simp only [bnd_eq]
    rw [hg]
    have next : ∀ (y : placeT) (b2 : BackT), R k n (pre ++ y :: q) z ls nw b2 → y.xdirty = false → ∃ l' b', cache_Cache_Flush_L0 c q.length (pre.length + 1) (pre ++ y :: q) b2 = .inl (l', b') ∧ R k n l' z ls nw b' ∧ ∀ p ∈ l', p.xdirty = false := fun y b2 hy d => by
      have e : pre ++ y :: q = (pre ++ [y]) ++ q := by simp
      have e2 : pre.length + 1 = (pre ++ [y]).length := by simp
      rw [e] at hy ⊢
      rw [e2]
      refine flush_loop c k n z ls nw q (pre ++ [y]) b2 hy fun p hp => ?_
      rcases List.mem_append.1 hp with r | r
      · exact hd p r
      · rw [List.mem_singleton.1 r]; exact d
    by_cases d : x.xdirty = true
    · have h2 := h.wrote d
      have nx := next (clP x) _ h2 rfl
      rw [if_pos d, stt]
      unfold wbB wbc at nx
      rw [show r10_Back_Safe b = b.xLog from rfl]
      by_cases s : ((b.xLog : Nat) : Int) < ((x.xlsn : Nat) : Int)
      · rw [if_pos (by omega)] at nx
        rw [if_pos s, force_good h.good, if_pos rfl, lpS_inl, save_good (h.good.same _ _), if_pos rfl]
        simp only [List.append_assoc]
        exact nx
      · rw [if_neg (by omega), Nat.max_eq_left (by omega)] at nx
        rw [if_neg s, lpS_inl, save_good h.good, if_pos rfl]
        exact nx
    · rw [if_neg d]
      exact next x b h (Bool.eq_false_iff.2 d)
theorem dirty_none : ∀ (l : List placeT) (m : List Int), (∀ p ∈ l, p.xdirty = false) → cache_Cache_Dirty_L0 l m = m
  | [], m, _ => by rw [cache_Cache_Dirty_L0]
  | x :: l, m, h => by
    rw [cache_Cache_Dirty_L0, if_neg (by rw [h x (.head _)]; decide)]
    exact dirty_none l m fun p hp => h p (.tail _ hp)
theorem now_loop (p0 : Int) (l1 : List OpD) (r : Bool) (b : BackT) : ∀ (q k : Nat) (l : List (List UInt8)), k + q = 8 → 1 ≤ q → l.length = 7 → (w10_CacheRule_L0 p0 l1 r b q k l).length = 7 ∧ ∀ i : Nat, i ≤ 6 → gt (w10_CacheRule_L0 p0 l1 r b q k l) i = if k ≤ i then Option.getD (mget b.xPages (i : Int)) [] else gt l i
  | 0, _, _, _, h, _ => by omega
  | q + 1, k, l, hk, _, hl => by
    rw [w10_CacheRule_L0]
    by_cases c : ((k : Nat) : Int) ≤ 6
    · rw [if_pos c, bnd_eq]
      obtain ⟨i1, i2⟩ := now_loop p0 l1 r b q (k + 1) (List.set l k (Option.getD (mget b.xPages ((k : Nat) : Int)) [])) (by omega) (by omega) (by rw [List.length_set]; exact hl)
      refine ⟨i1, fun i h6 => ?_⟩
      rw [i2 i h6, gt_set (by omega)]
      by_cases e : i = k
      · subst e
        rw [if_neg (by omega), if_pos rfl, if_pos (Nat.le_refl _)]
      · rw [if_neg e]
        by_cases e2 : k ≤ i
        · rw [if_pos e2, if_pos (by omega)]
        · rw [if_neg e2, if_neg (by omega)]
    · rw [if_neg c]
      exact ⟨hl, fun i h6 => by rw [if_neg (by omega)]⟩
theorem end_loop (r : Bool) (nw : List (List UInt8)) (b : BackT) (h : ∀ i : Nat, 1 ≤ i → i ≤ 6 → Option.getD (mget b.xPages (i : Int)) [] = gt nw i) : ∀ (q k : Nat), 1 ≤ k → w10_CacheRule_L6 r nw b q k = .inl ()
  | 0, _, _ => by rw [w10_CacheRule_L6]
  | q + 1, k, hk => by
    rw [w10_CacheRule_L6]
    by_cases c : ((k : Nat) : Int) ≤ 6
    · rw [if_pos c, bnd_eq, bnd_eq, if_neg (fun q => q (h k hk (by omega)))]
      exact end_loop r nw b h q (k + 1) (by omega)
    · rw [if_neg c]
theorem T_CacheRule (p0 : Int) (l : List OpD) : w10_CacheRule p0 l = true := by
  unfold w10_CacheRule
  rw [bnd_eq, bnd_eq, live_true]
  by_cases c : ((l.length : Nat) : Int) > 200
  · rw [if_pos c]; rfl
  · rw [if_neg c]
    obtain ⟨n, hn⟩ : ∃ n, n = 1 + ((Int.toNat ((remI p0 6) + 6)) % 6) := ⟨_, rfl⟩
    have hlog : (r10_NewBack 6 (-1)).xLog = 0 := rfl
    obtain ⟨n1, n2⟩ := now_loop p0 l true (r10_NewBack 6 (-1)) 7 1 (List.replicate 7 ([] : List UInt8)) rfl (by decide) rfl
    rw [show (Int.toNat (7 - 1)) + 1 = 7 from rfl, bnd_eq, ← hn]
    generalize w10_CacheRule_L0 p0 l true (r10_NewBack 6 (-1)) 7 1 (List.replicate 7 ([] : List UInt8)) = nw at n1 n2
    have hR : R 0 n (List.replicate n (placeT.mk false 0 (Ll.mk ([])) 0 false false 0)) 0 (List.replicate 7 0) nw (r10_NewBack 6 (-1)) := by
      refine ⟨List.length_replicate, by omega, by omega, rfl, n1, ?_, ?_, ?_, ?_, ?_, ?_, rfl, new_good⟩
      · intro p hp hf; rw [(List.mem_replicate.1 hp).2] at hf; cases hf
      · intro p hp hf; rw [(List.mem_replicate.1 hp).2] at hf; cases hf
      · exact List.pairwise_replicate.2 (.inr fun f => by cases f)
      · intro p hp; rw [(List.mem_replicate.1 hp).2]; exact ⟨Int.le_refl _, Int.le_refl _⟩
      · intro p hp hf; rw [(List.mem_replicate.1 hp).2] at hf; cases hf
      · intro i h1 h6 _
        refine ⟨by rw [n2 i h6, if_pos h1], ?_⟩
        have : gt (List.replicate 7 0) i = 0 := by
          unfold gt
          rw [List.getD_eq_getElem?_getD, List.getElem?_replicate]
          split <;> rfl
        rw [this]; omega
    obtain ⟨k', l', z', ls', nw', b', e1, e2⟩ := rule_loop true n l 0 _ _ _ _ _ (by omega) hR
    rw [show (r10_NewBack 6 (-1)).xCalls.length = 0 from rfl] at e1
    rw [e1, lp_inl]
    dsimp only
    obtain ⟨l2, b2, f1, f2, f3⟩ := flush_loop (CacheT.mk (Ll.mk l') z') k' n z' ls' nw' l' [] b' e2 (fun p hp => by cases hp)
    have hfl : cache_Cache_Flush (CacheT.mk (Ll.mk l') z') b' = (0, CacheT.mk (Ll.mk l2) z', b2) := by
      unfold cache_Cache_Flush
      show lp (cache_Cache_Flush_L0 (CacheT.mk (Ll.mk l') z') l'.length ([] : List placeT).length ([] ++ l') b') _ = _
      rw [f1, lp_inl]
    rw [bnd_eq, hfl]
    dsimp only
    have hdi : cache_Cache_Dirty (CacheT.mk (Ll.mk l2) z') b2 = [] := by
      unfold cache_Cache_Dirty
      rw [dirty_none l2 [] f3, bnd_eq]
      unfold srtI
      exact List.mergeSort_nil
    rw [if_pos rfl, bnd_eq, hdi, if_pos (by rfl), end_loop true nw' b2 (fun i h1 h6 => (f2.off i h1 h6 fun p hp _ => f3 p hp).1) 7 1 (Nat.le_refl _), lp_inl]
end Go.Proofs.Ytkekaemfokmhdaa
