/-
  A request that is newly asked: the law's value.
  Conditions: numbers of requests are below 2^64.
-/
import Derived.Test.YtjcdgofegkngpaaJuL
import Derived.Test.YtjcdgofegkngpaaJMore
namespace Go.Proofs.Ytjcdgofegkngpaa
set_option linter.unusedVariables false
set_option linter.unusedSimpArgs false
open Go.RowKit
theorem mo_max (l0 : List SeenT) (l1 : List OpD) (b : Bool) {B : Nat} : ∀ (q : List SeenT) (k : Nat), k ≤ w23_JudgeMore_L0 l0 l1 b q k ∧ (∀ x ∈ q, x.xReq ≤ w23_JudgeMore_L0 l0 l1 b q k) ∧ (k ≤ B → (∀ x ∈ q, x.xReq ≤ B) → w23_JudgeMore_L0 l0 l1 b q k ≤ B)
  | [], k => ⟨Nat.le_refl _, fun x h => (by cases h), fun h _ => h⟩
  | y :: q, k => by
    obtain ⟨h1, h2, h3⟩ := mo_max l0 l1 b (B := B) q (max k y.xReq)
    refine ⟨Nat.le_trans (Nat.le_max_left _ _) h1, fun x hx => ?_, fun hk hb => h3 (Nat.max_le.2 ⟨hk, hb y (.head _)⟩) fun x hx => hb x (.tail _ hx)⟩
    rcases List.mem_cons.1 hx with rfl | hx
    · exact Nat.le_trans (Nat.le_max_right _ _) h1
    · exact h2 x hx
theorem chk_eq (l : List OpD) : op_Check l = r04_Check l := by
  unfold op_Check r04_Check; rw [ce_eq]
theorem last_get {α : Type} [Inhabited α] (l : List α) (x : α) : List.getD (l ++ [x]) (List.length (l ++ [x]) - 1) default = x := by simp
theorem last_set {α : Type} (l : List α) (x y : α) : List.set (l ++ [x]) (List.length (l ++ [x]) - 1) y = l ++ [y] := by simp
theorem T_JudgeMore (l : List SeenT) (ops : List OpD) (hn : ∀ x ∈ l, x.xReq ≤ 18446744073709551615) : w23_JudgeMore l ops = true := by
  unfold w23_JudgeMore
  simp only [bnd_eq, live_true, if_true]
  rw [judge_eq]
  cases h : jrun l [] [] with
  | inr r =>
    obtain ⟨i, e⟩ := r
    simp only
    rw [if_neg (jrun_err h).1]
  | inl t =>
    simp only
    rw [if_pos True.intro]
    by_cases hl : ((List.length l : Nat) : Int) > 100
    · rw [if_pos hl]
    rw [if_neg hl]
    by_cases hc : r04_Check ops = 0
    · rw [if_pos hc]
      obtain ⟨_, m2, m3⟩ := mo_max l ops true (B := 18446744073709551615) l 0
      have m4 := m3 (Nat.zero_le _) hn
      generalize w23_JudgeMore_L0 l ops true l 0 = n at m2 m4 ⊢
      by_cases hx : ((n : Nat) : Int) = 18446744073709551615
      · rw [if_pos hx]
      rw [if_neg hx]
      have hw : Int.toNat (IntKind.u64.wrap (((n : Nat) : Int) + 1)) = n + 1 := by rw [IntWalk.u64_in _ (by omega)]; omega
      rw [hw]
      have hA : ∀ c, judge_check (SeenT.mk 1 1 (n + 1) c (Ll.mk ops) (Ll.mk [])) = 0 := fun c => by
        unfold judge_check
        simp [bnd_eq, chk_eq, hc]
      have hT : ∀ c : Int, c = 1 ∨ c = 2 → judge_check (SeenT.mk 3 1 (n + 1) c (Ll.mk []) (Ll.mk [])) = 0 := fun c hc => by
        unfold judge_check
        rcases hc with rfl | rfl <;> simp
      have hk : mget t.2 (requestD.mk 1 (n + 1)) = none := jrun_keys h rfl fun x hx e => by
        have := m2 x hx
        have e2 : x.xReq = n + 1 := congrArg requestD.xreq e
        omega
      have jA : jv (SeenT.mk 1 1 (n + 1) 0 (Ll.mk ops) (Ll.mk [])) t.1 none = .inl (t.1, fateT.mk (Ll.mk ops) false false ⟨[]⟩) := by
        simp only [jv, hA]; rfl
      have rA : jrun (l ++ [SeenT.mk 1 1 (n + 1) 0 (Ll.mk ops) (Ll.mk [])]) [] [] = .inl (t.1, mput t.2 (requestD.mk 1 (n + 1)) (fateT.mk (Ll.mk ops) false false ⟨[]⟩)) := by
        rw [jrun_app, h]
        simp only
        rw [jrun_v, show jkey (SeenT.mk 1 1 (n + 1) 0 (Ll.mk ops) (Ll.mk [])) = requestD.mk 1 (n + 1) from rfl, hk, jA]
        rfl
      have jT : jv (SeenT.mk 3 1 (n + 1) 2 (Ll.mk []) (Ll.mk [])) t.1 (some (fateT.mk (Ll.mk ops) false false ⟨[]⟩)) = .inl (t.1, fateT.mk (Ll.mk ops) false true ⟨[]⟩) := by
        simp only [jv, hT 2 (.inr rfl)]; rfl
      have jT1 : jv (SeenT.mk 3 1 (n + 1) 1 (Ll.mk []) (Ll.mk [])) t.1 (some (fateT.mk (Ll.mk ops) false false ⟨[]⟩)) = .inr 4 := by
        simp only [jv, hT 1 (.inl rfl)]; rfl
      rw [last_get, last_set]
      have rT : judge_Judge ((l ++ [SeenT.mk 1 1 (n + 1) 0 (Ll.mk ops) (Ll.mk [])]) ++ [SeenT.mk 3 1 (n + 1) 2 (Ll.mk []) (Ll.mk [])]) = (-1, 0) := by
        rw [judge_eq, jrun_app, rA]
        simp only
        rw [jrun_v, show jkey (SeenT.mk 3 1 (n + 1) 2 (Ll.mk []) (Ll.mk [])) = requestD.mk 1 (n + 1) from rfl, mget_put, if_pos rfl, jT]
        rfl
      have rT1 : judge_Judge ((l ++ [SeenT.mk 1 1 (n + 1) 0 (Ll.mk ops) (Ll.mk [])]) ++ [SeenT.mk 3 1 (n + 1) 1 (Ll.mk []) (Ll.mk [])]) = (((List.length (l ++ [SeenT.mk 1 1 (n + 1) 0 (Ll.mk ops) (Ll.mk [])]) : Nat) : Int), 4) := by
        rw [judge_eq, jrun_app, rA]
        simp only
        rw [jrun_v, show jkey (SeenT.mk 3 1 (n + 1) 1 (Ll.mk []) (Ll.mk [])) = requestD.mk 1 (n + 1) from rfl, mget_put, if_pos rfl, jT1]
        rfl
      have rA' : judge_Judge (l ++ [SeenT.mk 1 1 (n + 1) 0 (Ll.mk ops) (Ll.mk [])]) = (-1, 0) := by rw [judge_eq, rA]
      rw [rA', rT, rT1]
      simp
    · rw [if_neg hc]
theorem ju_bk (y : SeenD) : 1 ≤ bk y := Nat.le_add_right 1 _
theorem ju_len {a0 : Sv SeenD} {n : Nat} (hb : bk a0 + n ≤ 1048576) : List.length (List.map SeenD.abs a0.ls) ≤ 1048576 := by
  rw [List.length_map]
  have := Sv.bk_len (s := a0) ju_bk
  omega
theorem ju_nums {w : World} {a0 : Sv SeenD} (h : SvOk w 6 80 SeenD.cells (SeenD.Ok w) a0) : ∀ x ∈ List.map SeenD.abs a0.ls, x.xReq ≤ 18446744073709551615 := fun x hx => by
  obtain ⟨y, hy, rfl⟩ := List.mem_map.1 hx
  exact (h.2.2.2 y hy).2.2.1
end Go.Proofs.Ytjcdgofegkngpaa
