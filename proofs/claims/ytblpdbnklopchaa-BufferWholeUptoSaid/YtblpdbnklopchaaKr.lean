/-
  Ranges over functions: a second set of steps, at frames of rounds and at frames with a mark among their deferred calls; the statement's law; iterators' contracts.
  Conditions: none beyond each law's own.
-/
import Derived.Test.YtblpdbnklopchaaKg
import Derived.RangeFuncRecord
namespace Go.Proofs.Ytblpdbnklopchaa
set_option linter.unusedVariables false
set_option linter.unusedSimpArgs false
open Go.RowKit

def fen (ro : Option Nat) : Fence := { Fence.wide with round := ro }
def Wf (ro : Option Nat) (ds : List Deferred) (P : Program) (c : Code) (n : Nat) (F : List (Nat × Value)) (w : World) (Q : Exit → Act → World → Prop) : Prop := ∀ a, Ag0 n F a → a.defers = ds → c.wpIn (fen ro) 0 P Q a w
def Ff (ds : List Deferred) (Q : Exit → Act → World → Prop) (e : Exit) (n : Nat) (F : List (Nat × Value)) (w : World) : Prop := ∀ a, Ag0 n F a → a.defers = ds → Q e a w
def Lf (ro : Option Nat) (ds : List Deferred) (P : Program) (ops : Array Oper) (Q : Exit → Act → World → Prop) (rest : List Oper) (n : Nat) (F : List (Nat × Value)) (w : World) : Prop := ∀ a, Ag0 n F a → a.defers = ds → wpListIn (fen ro) 0 P ops Q rest a w
/-- An operation, at a round's frame too. -/
def Df (ro : Option Nat) (P : Program) (n : Nat) (F : List (Nat × Value)) (w : World) (op : Op) (ty : TypeId) (K : Value → World → Prop) : Prop :=
  ∀ a, Ag0 n F a → ∀ o : Oper, o.op = op → o.type = ty → ∀ (next : Act → World → Prop) (Q : Exit → Act → World → Prop), (∀ v w', K v w' → next (a.put o.dst v) w') → o.uponIn (fen ro) 0 P a next Q ((o.semAt ro a.eval).run P w)
def nodefer : Op → Bool
  | .defer _ => false
  | _ => true

section
variable {ro : Option Nat} {ds : List Deferred} {P : Program} {n : Nat} {F : List (Nat × Value)} {w : World} {Q : Exit → Act → World → Prop} {K : Act → World → Prop}
theorem calls_fen {f : FuncId} {args : Array Value} {R : Ending → World → Prop} {m : Nat} : CallsIn (fen ro) m P f args w R ↔ Calls P f args w R := callsIn_wide (n := m)
theorem rows_fen {row : String} {args : Array Value} {R : Value → World → Prop} {m : Nat} (h : Rows P row args w R) : RowsIn (fen ro) m P row args w R := fun c cs _ =>
  let ⟨v, w', r, s⟩ := h c cs; ⟨v, w', r, stepsIn_wide.2 s⟩
theorem upon_fen {o : Oper} {a : Act} {next : Act → World → Prop} : ∀ {r : Result Next}, o.upon P a next Q r → o.uponIn (fen ro) 0 P a next Q r := fun {r} h => by
  cases r with
  | ok v w' =>
    cases v with
    | enter f args => exact ⟨fun hd => absurd hd (by simp [fen, Fence.wide]), calls_fen.2 h⟩
    | row r args => exact ⟨fun hd => absurd hd (by simp [fen, Fence.wide]), rows_fen h⟩
    | value v => exact h
    | skip => exact h
    | defer d => exact h
    | _ => exact (show False from h).elim
  | halt hl w' =>
    cases hl with
    | panic v => exact h
    | _ => exact (show False from h).elim
theorem semAt_nodefer {o : Oper} {a : Act} (h : nodefer o.op = true) : o.semAt ro a.eval = execOp a.eval o := by
  unfold Oper.semAt
  cases ro with
  | none => rfl
  | some l => cases ho : o.op <;> first | rfl | (rw [ho] at h; cases h)
theorem Do.df {op : Op} {ty : TypeId} {K : Value → World → Prop} (hn : nodefer op = true) (h : Do P n F w op ty K) : Df ro P n F w op ty K := fun a ha o h1 h2 next Q hk => by
  rw [semAt_nodefer (by rw [h1]; exact hn)]
  exact upon_fen (h a ha o h1 h2 next Q hk)
/-- A call of yield comes back so. -/
def Yd (P : Program) (l : Nat) (args : Array Value) (W : World) (K : Value → World → Prop) : Prop :=
  ∃ fn tmps assign body, (Instr.yield l args).run P W = .ok (.round l fn tmps assign body) W ∧ RoundIn Fence.wide 0 P l fn tmps assign body W (Ret K)
theorem Df.yield {ty : TypeId} {K K' : Value → World → Prop} {fx : Operand} {l : Nat} {args : List Operand} {vals : List Value} {tys : Array TypeId} (hx : ev F fx = some (.func (.yield l) #[] #[])) (ha : evl F args = some vals) (hy : Yd P l vals.toArray w K)
    (h : ∀ v w', K v w' → K' v w') : Df ro P n F w (.call ⟨.value fx, args.toArray, tys⟩) ty K' := fun a hag o h1 h2 next Q hn => by
  obtain ⟨fn, tmps, assign, body, hr, hrd⟩ := hy
  rw [semAt_nodefer (by rw [h1]; rfl)]
  have e : (execOp a.eval o).run P w = .ok (.round l fn tmps assign body) w := by
    unfold execOp
    rw [h1]
    simp [resolve, hag.eval hx, Deferred.ofValue, invoke, hag.evals ha, hr]
  rw [e, Oper.uponIn_round]
  refine ⟨fun hd => absurd hd (by simp [fen, Fence.wide]), ?_⟩
  have hrd' : RoundIn (fen ro) (0 - 1) P l fn tmps assign body w (Ret K) := hrd
  exact hrd'.mono fun e w' hR => by
    obtain ⟨v, rfl, hk⟩ := hR
    exact hn _ _ (h _ _ hk)

/-! ### code -/
theorem Wf.seq {x y : Code} (h : Wf ro ds P x n F w (Exit.then (fun a w => y.wpIn (fen ro) 0 P Q a w) Q)) : Wf ro ds P (.seq x y) n F w Q := fun a ha hd => wpIn_seq (h a ha hd)
theorem Wf.skip (h : Ff ds Q .normal n F w) : Wf ro ds P .skip n F w Q := fun a ha hd => wpIn_skip (h a ha hd)
theorem Wf.label {l : Nat} (h : Ff ds Q .normal n F w) : Wf ro ds P (.label l) n F w Q := fun a ha hd => wpIn_label (h a ha hd)
theorem Wf.exit {i : Nat} (h : Ff ds Q (.exit i) n F w) : Wf ro ds P (.exit i) n F w Q := fun a ha hd => wpIn_exit (h a ha hd)
theorem Wf.ret (h : Ff ds Q .ret n F w) : Wf ro ds P .ret n F w Q := fun a ha hd => wpIn_ret (h a ha hd)
theorem Wf.block {i : Nat} {c : Code} (h : Wf ro ds P c n F w (Exit.inBlock i Q)) : Wf ro ds P (.block i c) n F w Q := fun a ha hd => wpIn_block (h a ha hd)
theorem Wf.cond1 {c : Operand} {x y : Code} {b : Bool} (hc : ev F c = some (.bool b)) (hb : b = true) (ht : Wf ro ds P x n F w Q) : Wf ro ds P (.cond c x y) n F w Q :=
  fun a ha hd => wpIn_cond_split (ha.eval hc) (fun _ => ht a ha hd) (fun h => by rw [hb] at h; cases h)
theorem Wf.cond0 {c : Operand} {x y : Code} {b : Bool} (hc : ev F c = some (.bool b)) (hb : b = false) (hf : Wf ro ds P y n F w Q) : Wf ro ds P (.cond c x y) n F w Q :=
  fun a ha hd => wpIn_cond_split (ha.eval hc) (fun h => by rw [hb] at h; cases h) (fun _ => hf a ha hd)
theorem Wf.region {i : Nat} {l : List Oper} (h : Lf ro ds P l.toArray Q l n F w) : Wf ro ds P (.region i l.toArray false) n F w Q := fun a ha hd => wpIn_region_lit (h a ha hd)
theorem Wf.weak {c : Code} {G : List (Nat × Value)} (hs : Sub G F) (h : Wf ro ds P c n G w Q) : Wf ro ds P c n F w Q := fun a ha hd => h a (ha.sub hs) hd
/-- Back to the first set of steps. -/
theorem Wf.plain {c : Code} (h : Wp P c n F w Q) : Wf none [] P c n F w Q := fun a ha hd => wpIn_wide.2 (h a ⟨ha, hd⟩)
theorem Ff.then {y : Code} (h : Wf ro ds P y n F w Q) : Ff ds (Exit.then (fun a w => y.wpIn (fen ro) 0 P Q a w) Q) .normal n F w := h
theorem Ff.thenX {i : Nat} (h : Ff ds Q (.exit i) n F w) : Ff ds (Exit.then K Q) (.exit i) n F w := h
theorem Ff.thenR (h : Ff ds Q .ret n F w) : Ff ds (Exit.then K Q) .ret n F w := h
theorem Ff.blockN {i : Nat} (h : Ff ds Q .normal n F w) : Ff ds (Exit.inBlock i Q) .normal n F w := h
theorem Ff.blockR {i : Nat} (h : Ff ds Q .ret n F w) : Ff ds (Exit.inBlock i Q) .ret n F w := h
theorem Ff.blockX {i : Nat} (h : Ff ds Q .normal n F w) : Ff ds (Exit.inBlock i Q) (.exit i) n F w := fun a ha hd => by
  simp only [Exit.inBlock, if_true]; exact h a ha hd
theorem Ff.blockO {i j : Nat} (hne : Nat.beq j i = false) (h : Ff ds Q (.exit j) n F w) : Ff ds (Exit.inBlock i Q) (.exit j) n F w := fun a ha hd => by
  have : j ≠ i := fun e => by subst e; rw [Nat.beq_refl] at hne; cases hne
  simp only [Exit.inBlock, if_neg this]; exact h a ha hd
theorem Wf.loop {c : Code} {ι : Type} (Fh : ι → List (Nat × Value)) (S : ι → World → Prop) (μ : ι → Nat) (i0 : ι) (h0 : Sub (Fh i0) F) (hS : S i0 w)
    (round : ∀ i w, S i w → Wf ro ds P c n (Fh i) w (Exit.then (fun a' w' => ∃ i', (Ag0 n (Fh i') a' ∧ a'.defers = ds) ∧ S i' w' ∧ μ i' < μ i) Q)) : Wf ro ds P (.loop c) n F w Q := by
  intro a ha hd b k cs hro hb hr
  have key : ∀ m i a w, μ i = m → Ag0 n (Fh i) a → a.defers = ds → S i w → ∃ e a' w', Q e a' w' ∧ ArrivesIn (Machine.fenced P (fen ro)) P (lone (b.atR a (.code c :: .inLoop c :: k)) cs w) b k cs e a' w' := by
    intro m
    induction m using Nat.strongRecOn with
    | _ m ih =>
      intro i a w hm ha hd hs
      obtain ⟨e, a1, w1, hq, harr⟩ := round i w hs a ha hd b (.inLoop c :: k) cs hro hb hr
      cases e with
      | normal =>
        obtain ⟨i', ⟨ha', hd'⟩, hs', hlt⟩ := hq
        obtain ⟨e2, a2, w2, hq2, harr2⟩ := ih (μ i') (hm ▸ hlt) i' a1 w1 rfl ha' hd' hs'
        exact ⟨e2, a2, w2, hq2, .of_steps (StepsIn.trans harr (.one (fenced_calm hb hr rfl) stepR_inLoop)) harr2⟩
      | exit id => exact ⟨_, a1, w1, hq, .pass (x := .inLoop c) rfl (fun _ _ => .inl (by simp)) harr⟩
      | goto l => exact ⟨_, a1, w1, hq, .pass (x := .inLoop c) rfl (fun _ _ => .inl (by simp)) harr⟩
      | ret => exact ⟨_, a1, w1, hq, .pass (x := .inLoop c) rfl (fun _ _ => .inl (by simp)) harr⟩
      | panic ch => exact ⟨_, a1, w1, hq, .pass (x := .inLoop c) rfl (fun _ _ => .inl (by simp)) harr⟩
      | outgrown => exact ⟨_, a1, w1, hq, .pass (x := .inLoop c) rfl (fun _ _ => .inl (by simp)) harr⟩
  obtain ⟨e, a', w', hq, harr⟩ := key _ i0 a w rfl (ha.sub h0) hd hS
  exact ⟨e, a', w', hq, .of_steps (.one (fenced_calm hb hr rfl) stepR_loop) harr⟩
theorem Ff.round {ι : Type} {Fh : ι → List (Nat × Value)} {S : ι → World → Prop} {μ : ι → Nat} {m : Nat} (i' : ι) (hs : Sub (Fh i') F) (hS : S i' w) (hm : μ i' < m) :
    Ff ds (Exit.then (fun a' w' => ∃ i', (Ag0 n (Fh i') a' ∧ a'.defers = ds) ∧ S i' w' ∧ μ i' < m) Q) .normal n F w := fun a ha hd => ⟨i', ⟨ha.sub hs, hd⟩, hS, hm⟩

/-! ### a region in the order of the text -/
variable {ops : Array Oper} {rest : List Oper} {pos : String} {aft : Array Edge} {d : Nat} {op : Op} {ty : TypeId} {v : Value}
theorem put_defers (a : Act) (d : Option Nat) (v : Value) : (a.put d v).defers = a.defers := by cases d <;> rfl
theorem Lf.nil (h : Ff ds Q .normal n F w) : Lf ro ds P ops Q [] n F w := fun a ha hd => wpListIn_nil (h a ha hd)
theorem Lf.do (hd : Nat.blt d n = true) (h : Df ro P n F w op ty fun v w' => Lf ro ds P ops Q rest n ((d, v) :: F) w') : Lf ro ds P ops Q (⟨some d, op, ty, pos, aft, none⟩ :: rest) n F w := fun a ha hds =>
  wpListIn_plain rfl fun _ hK => ⟨fun _ _ => trivial, h a ha _ rfl rfl _ _ fun v w' k => hK _ _ (k _ (ha.put hd) hds)⟩
theorem Lf.do0 (h : Df ro P n F w op ty fun _ w' => Lf ro ds P ops Q rest n F w') : Lf ro ds P ops Q (⟨none, op, ty, pos, aft, none⟩ :: rest) n F w := fun a ha hds =>
  wpListIn_plain rfl fun _ hK => ⟨fun _ _ => trivial, h a ha _ rfl rfl _ _ fun v w' k => hK _ _ (k _ ha hds)⟩
theorem Lf.val (hd : Nat.blt d n = true) (hn : nodefer op = true) (hy : Yl P n F w op ty v) (h : Lf ro ds P ops Q rest n ((d, v) :: F) w) : Lf ro ds P ops Q (⟨some d, op, ty, pos, aft, none⟩ :: rest) n F w :=
  Lf.do hd (Do.df hn (hy.do h))
theorem Lf.doG {j t : Nat} {b b' : Bool} (hj : (ops[j]?).bind (·.dst) = some t) (hv : look F t = some (.bool b')) (hb : b' = b) (hd : Nat.blt d n = true) (h : Df ro P n F w op ty fun v w' => Lf ro ds P ops Q rest n ((d, v) :: F) w') :
    Lf ro ds P ops Q (⟨some d, op, ty, pos, aft, some (j, b)⟩ :: rest) n F w := fun a ha hds =>
  wpListIn_step fun _ hK => by
    have hw : Region.wanted ⟨some d, op, ty, pos, aft, some (j, b)⟩ (yielded ops a.tmps) = true := by subst hb; simp [Region.wanted, yielded_of ha hj hv]
    rw [if_pos hw]
    exact ⟨fun _ _ => trivial, h a ha _ rfl rfl _ _ fun v w' k => hK _ _ (k _ (ha.put hd) hds)⟩
theorem Lf.doG0 {j t : Nat} {b b' : Bool} (hj : (ops[j]?).bind (·.dst) = some t) (hv : look F t = some (.bool b')) (hb : b' = b) (h : Df ro P n F w op ty fun _ w' => Lf ro ds P ops Q rest n F w') :
    Lf ro ds P ops Q (⟨none, op, ty, pos, aft, some (j, b)⟩ :: rest) n F w := fun a ha hds =>
  wpListIn_step fun _ hK => by
    have hw : Region.wanted ⟨none, op, ty, pos, aft, some (j, b)⟩ (yielded ops a.tmps) = true := by subst hb; simp [Region.wanted, yielded_of ha hj hv]
    rw [if_pos hw]
    exact ⟨fun _ _ => trivial, h a ha _ rfl rfl _ _ fun v w' k => hK _ _ (k _ ha hds)⟩
theorem Lf.valG {j t : Nat} {b b' : Bool} (hj : (ops[j]?).bind (·.dst) = some t) (hv : look F t = some (.bool b')) (hb : b' = b) (hd : Nat.blt d n = true) (hn : nodefer op = true) (hy : Yl P n F w op ty v) (h : Lf ro ds P ops Q rest n ((d, v) :: F) w) :
    Lf ro ds P ops Q (⟨some d, op, ty, pos, aft, some (j, b)⟩ :: rest) n F w := Lf.doG hj hv hb hd (Do.df hn (hy.do h))
theorem Lf.skipG {j t : Nat} {b b' : Bool} (hj : (ops[j]?).bind (·.dst) = some t) (hv : look F t = some (.bool b')) (hb : b' = !b) (hd : Nat.blt d n = true) (h : Lf ro ds P ops Q rest n ((d, undef) :: F) w) :
    Lf ro ds P ops Q (⟨some d, op, ty, pos, aft, some (j, b)⟩ :: rest) n F w := fun a ha hds =>
  wpListIn_step fun _ hK => by
    have hw : Region.wanted ⟨some d, op, ty, pos, aft, some (j, b)⟩ (yielded ops a.tmps) = false := by subst hb; simp [Region.wanted, yielded_of ha hj hv]
    rw [hw, if_neg (by decide)]
    exact ⟨fun _ _ => trivial, hK _ _ (h _ (ha.put hd) hds)⟩
theorem Lf.skipU {j t : Nat} {b : Bool} (hj : (ops[j]?).bind (·.dst) = some t) (hv : look F t = some undef) (hd : Nat.blt d n = true) (h : Lf ro ds P ops Q rest n ((d, undef) :: F) w) :
    Lf ro ds P ops Q (⟨some d, op, ty, pos, aft, some (j, b)⟩ :: rest) n F w := fun a ha hds =>
  wpListIn_step fun _ hK => by
    have hw : Region.wanted ⟨some d, op, ty, pos, aft, some (j, b)⟩ (yielded ops a.tmps) = false := by simp [Region.wanted, yielded_undef ha hj hv]
    rw [hw, if_neg (by decide)]
    exact ⟨fun _ _ => trivial, hK _ _ (h _ (ha.put hd) hds)⟩
theorem Lf.skipG0 {j t : Nat} {b b' : Bool} (hj : (ops[j]?).bind (·.dst) = some t) (hv : look F t = some (.bool b')) (hb : b' = !b) (h : Lf ro ds P ops Q rest n F w) :
    Lf ro ds P ops Q (⟨none, op, ty, pos, aft, some (j, b)⟩ :: rest) n F w := fun a ha hds =>
  wpListIn_step fun _ hK => by
    have hw : Region.wanted ⟨none, op, ty, pos, aft, some (j, b)⟩ (yielded ops a.tmps) = false := by subst hb; simp [Region.wanted, yielded_of ha hj hv]
    rw [hw, if_neg (by decide)]
    exact ⟨fun _ _ => trivial, hK _ _ (h _ ha hds)⟩
end

/-! ### the whole function -/
section
variable {P : Program} {n : Nat} {F : List (Nat × Value)} {w0 w : World} {D : Nat → Prop} {L : List HP}
/-- What lies where a loop's record does, or the block for its rounds' deferred calls. -/
def obj (g : Nat) (o : Obj) : HP := fun h => h g = some o
theorem Own.obj {i g : Nat} {o : Obj} (H : Own w0 D w L) (hi : L[i]? = some (obj g o)) : w.heap[g]? = some o := by
  obtain ⟨h, h1, h2⟩ := H.get hi
  exact h2 _ _ h1
theorem Own.putObj {g : Nat} {o : Obj} (o' : Obj) (H : Own w0 D w (Go.Proofs.Ytblpdbnklopchaa.obj g o :: L)) : Own w0 D (w.putObj g o') (Go.Proofs.Ytblpdbnklopchaa.obj g o' :: L) := by
  have hg := H.obj (i := 0) rfl
  have hlt := size_lt hg
  refine H.upd rfl rfl rfl (by simp) fun h1 hr hk => ?_
  refine ⟨fun k => if k = g then some o' else none, by simp [Go.Proofs.Ytblpdbnklopchaa.obj], fun k o'' hk' => ?_, fun k _ hk2 => ?_⟩
  · by_cases e : k = g
    · subst e
      simp only [if_true, Option.some.injEq] at hk'
      subst hk'
      exact ⟨World.putObj_heap_same hlt, .inl (by rw [show h1 k = some o from hr]; exact Option.some_ne_none _)⟩
    · simp only [e, if_false] at hk'; cases hk'
  · exact World.putObj_heap_other fun e => by subst e; rw [show h1 k = some o from hr] at hk2; cases hk2
def mark (r : Nat) : Deferred := { target := .collected r, args := #[] }
/-- A frame on its way out, with the marks ds. -/
def Lv (P : Program) (fn : Func) (R : Value → World → Prop) (n : Nat) (F : List (Nat × Value)) (ds : List Deferred) (w : World) : Prop := ∀ a, Ag0 n F a → LeavesInM Fence.wide 0 P fn a.tmps (Ret R) ds .returning w
theorem Lv.nil {fn : Func} {R : Value → World → Prop} {v : Value} (hr : ∀ a, Ag0 n F a → (results fn a.tmps).run P w = .ok v w) (h : R v w) : Lv P fn R n F [] w := fun a ha => ⟨v, hr a ha, v, rfl, h⟩
theorem Lv.mark {fn : Func} {R : Value → World → Prop} {r : Nat} {ds : List Deferred} (H : Own w0 D w (obj r (.deferred (some [])) :: L)) (h : ∀ w', Own w0 D w' L → Lv P fn R n F ds w') : Lv P fn R n F (mark r :: ds) w := fun a ha =>
  ⟨(by intro e; cases e), .inl ⟨r, _, rfl, run_takeDeferred (H.obj (i := 0) rfl), h _ (H.putObj _).drop1 a ha⟩⟩
theorem Ff.res {fn : Func} {R : Value → World → Prop} {ds : List Deferred} (h : Lv P fn R n F ds w) : Ff ds (bodyPostM Fence.wide 0 P fn (Ret R)) .ret n F w := fun a ha hd => by
  show LeavesInM _ _ _ _ _ _ a.defers _ _
  rw [hd]; exact h a ha
theorem Ff.res0 {fn : Func} {R : Value → World → Prop} {ds : List Deferred} (h : Lv P fn R n F ds w) : Ff ds (bodyPostM Fence.wide 0 P fn (Ret R)) .normal n F w := fun a ha hd => by
  show LeavesInM _ _ _ _ _ _ a.defers _ _
  rw [hd]; exact h a ha
theorem Calls.bodyF {f : FuncId} {fn : Func} {c : Code} {args : List Value} {R : Ending → World → Prop} (hf : P.funcs[f]? = some fn) (hb : fn.body = some c) (hn : fn.ntmps = n) (hl : Nat.ble args.length n = true)
    (h : Wf none [] P c n (fr0 0 args) w (bodyPostM Fence.wide 0 P fn R)) : Calls P f args.toArray w R := by
  refine callsIn_wide.1 (callsIn_of_wp_marks (n := 0) hf hb trivial (h _ ⟨?_, fun t v hv => ?_⟩ rfl) rfl)
  · have : args.length ≤ n := Nat.le_of_ble_eq_true hl
    simp only [Array.size_append, List.size_toArray, Array.size_replicate, hn]; omega
  · obtain ⟨_, h2⟩ := look_fr0 _ _ _ _ hv
    rw [Nat.sub_zero] at h2
    have hlt := (List.getElem?_eq_some_iff.1 h2).1
    simp only
    rw [Array.getElem?_append_left (by simpa using hlt)]
    simpa using h2

/-! ### the statement -/
/-- An iterator hands on xs, one by one, as long as it is let; Li is what it has of its own. -/
def Iter {α : Type} (P : Program) (w0 : World) (D : Nat → Prop) (gf : Nat) (lb : List Value) (encs : α → List Value) (xs : List α) (Li : List HP) : Prop :=
  ∀ (l : Nat) (C J : List α → HP) (W : World),
    (∀ (pre : List α) (x : α) (R : HP) (W1 : World), pre ++ [x] <+: xs → Own w0 D W1 [C pre, R] → Yd P l (encs x).toArray W1 fun v W' => (v = .bool true ∧ Own w0 D W' [C (pre ++ [x]), R]) ∨ (v = .bool false ∧ Own w0 D W' [J (pre ++ [x]), R])) →
    Own w0 D W (C [] :: Li) →
    Calls P gf ((.func (.yield l) #[] #[] :: lb).toArray) W (Ret fun _ W' => Own w0 D W' [C xs] ∨ ∃ pre, pre <+: xs ∧ Own w0 D W' [J pre])
/-- How a round's body may be left. -/
def RP {α : Type} (w0 : World) (D : Nat → Prop) (C : List α → HP) (J : Code → List α → HP) (xs : List α) (R : HP) : Exit → Act → World → Prop
  | .normal, _, W => Own w0 D W [C xs, R]
  | .ret, _, W => Own w0 D W [J .ret xs, R]
  | .exit id, _, W => Own w0 D W [J (.exit id) xs, R]
  | _, _, _ => False
def putF : List Nat → List Value → List (Nat × Value) → List (Nat × Value)
  | p :: ps, v :: vs, F => putF ps vs ((p, v) :: F)
  | _, _, F => F
theorem putF_ag : ∀ (ps : List Nat) (vs : List Value) (F : List (Nat × Value)) (t : Array Value), Ag0 n F { tmps := t, defers := [] } → ps.all (fun p => Nat.blt p n) = true →
    Ag0 n (putF ps vs F) { tmps := (ps.zip vs).foldl (fun t (p, v) => t.setIfInBounds p v) t, defers := [] }
  | [], _, F, t, h, _ => by simpa [putF] using h
  | p :: ps, [], F, t, h, _ => by simpa [putF] using h
  | p :: ps, v :: vs, F, t, h, hp => by
    simp only [List.all_cons, Bool.and_eq_true] at hp
    exact putF_ag ps vs ((p, v) :: F) _ (h.put (v := v) hp.1) hp.2
theorem Wf.rangeFunc {α : Type} {g : Operand} {ps : List Nat} {assign body : Code} {Q : Exit → Act → World → Prop} {gf : Nat} {lb : List Value} {encs : α → List Value} {xs : List α} {Li : List HP} {ds : List Deferred}
    (C : List α → HP) (J : Code → List α → HP) (F1 : α → List (Nat × Value)) (hg : ev F g = some (.func (.func gf) #[] lb.toArray)) (eg : ∀ (b : Array Value) W, (callFunc gf b).run P W = .ok (.enter gf b) W) (hps : ∀ x, (encs x).length = ps.length) (hpn : ps.all (fun p => Nat.blt p n) = true)
    (it : Iter P w0 D gf lb encs xs Li) (H : Own w0 D w (C [] :: Li))
    (hasg : ∀ (l : Nat) (x : α) (W : World) (K : Act → World → Prop), Ff [] (Exit.then K fun _ _ _ => False) .normal n (F1 x) W → Wf (some l) [] P assign n (putF ps (encs x) F) W (Exit.then K fun _ _ _ => False))
    (hbody : ∀ (l : Nat) (pre : List α) (x : α) (R : HP) (W : World), pre ++ [x] <+: xs → Own w0 D W [C pre, R] → Wf (some l) [] P body n (F1 x) W (RP w0 D C J (pre ++ [x]) R))
    (hdone : ∀ (r : Nat) (W : World), Own w0 D W [obj r (.deferred (some [])), C xs] → Ff (mark r :: ds) Q .normal n F W)
    (hret : ∀ (r : Nat) (pre : List α) (W : World), pre <+: xs → Own w0 D W [obj r (.deferred (some [])), J .ret pre] → Ff (mark r :: ds) Q .ret n F W)
    (hexit : ∀ (r id : Nat) (pre : List α) (W : World), pre <+: xs → Own w0 D W [obj r (.deferred (some [])), J (.exit id) pre] → Ff (mark r :: ds) Q (.exit id) n F W) :
    Wf none ds P (.rangeFunc g ps.toArray assign body) n F w Q := by
  intro a ha hds
  refine wpIn_rangeFunc fun fn _ => ?_
  obtain ⟨rec, hrec⟩ : ∃ rec : LoopState → Option Code → Loop, rec = fun st pe => { state := st, pending := pe, fn, tmps := a.tmps, params := ps.toArray, assign, body, defers := w.heap.size } := ⟨_, rfl⟩
  obtain ⟨r, hr⟩ : ∃ r, r = w.heap.size := ⟨_, rfl⟩
  have H1 := (H.alloc (R := obj r (.deferred (some []))) (.deferred (some [])) (by simp [obj, hr]))
  have H2 := H1.alloc (R := obj (r + 1) (.loop (rec .ready none))) (.loop (rec .ready none)) (by simp [obj, hr])
  have hent := run_enterLoop_outer (P := P) (w := w) fn a.tmps ps.toArray assign body
  obtain ⟨W1, hW1⟩ : ∃ W1, (w.alloc (.deferred (some []))).alloc (.loop (rec .ready none)) = W1 := ⟨_, rfl⟩
  have hent' : (Instr.enterLoop fn a.tmps ps.toArray assign body (fen none).round).run P w = .ok (r + 1, [mark r]) W1 := by
    rw [← hW1, hr, hrec]; exact hent
  rw [hW1] at H2
  clear hent hW1 H1
  have hres : (resolve a.eval (rangeCall g (r + 1)) 0).run P W1 = .ok { target := .fn (.func gf) lb.toArray, args := #[.func (.yield (r + 1)) #[] #[]] } W1 := by
    simp only [resolve, ha.eval hg]
    simp [Deferred.ofValue, Act.eval]
  refine ⟨r + 1, [mark r], W1, _, W1, gf, (.func (.yield (r + 1)) #[] #[] :: lb).toArray, W1, hent', hres, fun _ _ => trivial, ?_, fun hd => absurd hd (by simp [fen, Fence.wide]), ?_⟩
  · simp [invoke, eg]
  · refine calls_fen.2 ?_
    have HC : Own w0 D W1 (sepL [C [], obj (r + 1) (.loop (rec .ready none)), obj r (.deferred (some []))] :: Li) := by
      have := H2.perm (L2 := [C [], obj (r + 1) (.loop (rec .ready none)), obj r (.deferred (some []))] ++ Li) (by
        simp only [List.cons_append, List.nil_append]
        refine (List.Perm.cons _ (List.Perm.swap _ _ _)).trans ?_
        refine (List.Perm.swap _ _ _).trans ?_
        exact List.Perm.refl _)
      exact this.pack
    refine (it (r + 1) (fun pre => sepL [C pre, obj (r + 1) (.loop (rec .ready none)), obj r (.deferred (some []))])
      (fun pre h => ∃ c : Code, (c = .ret ∨ ∃ id, c = .exit id) ∧ sepL [J c pre, obj (r + 1) (.loop (rec .done (some c))), obj r (.deferred (some []))] h) W1 ?_ HC).mono ?_
    · intro pre x R W hpre HW
      have HW2 := (HW.flat).pick [1, 0, 2, 3] (by decide) rfl
      have hl := HW2.obj (i := 0) rfl
      have hy := run_yield (P := P) (args := (encs x).toArray) hl (by rw [hrec]; simp [hps x])
      rw [hrec] at hy
      refine ⟨fn, _, assign, body, hy, roundIn_of_wpIn (F := Fence.wide) trivial ?_⟩
      have hag : Ag0 n F { tmps := a.tmps, defers := [] } := ⟨ha.size, ha.at_⟩
      have hag2 := putF_ag ps (encs x) F a.tmps hag hpn
      have hz : ∀ (t : Array Value), (ps.toArray.zip (encs x).toArray).foldl (fun t (p, v) => t.setIfInBounds p v) t = (ps.zip (encs x)).foldl (fun t (p, v) => t.setIfInBounds p v) t := fun t => by
        rw [List.zip_toArray, List.foldl_toArray]
      have hzz := hz a.tmps
      refine hasg (r + 1) x W _ ?_ _ ?_ rfl
      · intro a1 ha1 hd1
        have hbr := run_beginRound (P := P) hl (by rw [hrec])
        have HB := HW2.putObj (.loop { rec .ready none with state := .busy })
        obtain ⟨Wb, hWb⟩ : ∃ Wb, W.putObj (r + 1) (.loop { rec .ready none with state := .busy }) = Wb := ⟨_, rfl⟩
        rw [hWb] at HB hbr
        refine ⟨_, hbr, ?_⟩
        have HB2 : Own w0 D Wb [C pre, sepL [obj (r + 1) (.loop { rec .ready none with state := .busy }), obj r (.deferred (some [])), R]] := by
          have h3 := HB.pick [0, 2, 3, 1] (by decide) rfl
          have h4 : Own w0 D Wb (sepL [obj (r + 1) (.loop { rec .ready none with state := .busy }), obj r (.deferred (some [])), R] :: [C pre]) := h3.pack (L1 := [obj (r + 1) (.loop { rec .ready none with state := .busy }), obj r (.deferred (some [])), R])
          exact h4.pick [1, 0] (by decide) rfl
        refine wpIn_mono (hbody (r + 1) pre x _ _ hpre HB2 a1 ha1 hd1) ?_
        have fin : ∀ (X : HP) (jump : Option Code) (W3 : World), Own w0 D W3 [X, sepL [obj (r + 1) (.loop { rec .ready none with state := .busy }), obj r (.deferred (some [])), R]] →
            ∃ W4, (Instr.endRound (r + 1) jump).run P W3 = .ok (.bool jump.isNone) W4 ∧ Own w0 D W4 [sepL [X, obj (r + 1) (.loop (rec (if jump.isNone then .ready else .done) jump)), obj r (.deferred (some []))], R] := fun X jump W3 h3 => by
          have h4 := ((h3.pick [1, 0] (by decide) rfl).flat)
          have hl3 := h4.obj (i := 0) rfl
          have he : (Instr.endRound (r + 1) jump).run P W3 = .ok (.bool jump.isNone) (W3.putObj (r + 1) (.loop (rec (if jump.isNone then .ready else .done) jump))) := by
            have := run_endRound (P := P) jump hl3
            rw [hrec] at this ⊢; exact this
          have h5 := h4.putObj (.loop (rec (if jump.isNone then .ready else .done) jump))
          obtain ⟨W4, hW4⟩ : ∃ W4, W3.putObj (r + 1) (.loop (rec (if jump.isNone then .ready else .done) jump)) = W4 := ⟨_, rfl⟩
          rw [hW4] at he h5
          have h7 : Own w0 D W4 ([X, obj (r + 1) (.loop (rec (if jump.isNone then .ready else .done) jump)), obj r (.deferred (some []))] ++ [R]) := h5.pick [3, 0, 1, 2] (by decide) rfl
          exact ⟨W4, he, h7.pack⟩
        rintro e a3 W3 hp
        cases e with
        | normal =>
          obtain ⟨W4, he, h4⟩ := fin _ none W3 hp
          exact ⟨_, W4, he, _, rfl, .inl ⟨rfl, h4⟩⟩
        | ret =>
          obtain ⟨W4, he, h4⟩ := fin _ (some .ret) W3 hp
          exact ⟨_, W4, he, _, rfl, .inr ⟨rfl, h4.imp fun h1 hs => ⟨.ret, .inl rfl, hs⟩⟩⟩
        | exit id =>
          obtain ⟨W4, he, h4⟩ := fin _ (some (.exit id)) W3 hp
          exact ⟨_, W4, he, _, rfl, .inr ⟨rfl, h4.imp fun h1 hs => ⟨.exit id, .inr ⟨id, rfl⟩, hs⟩⟩⟩
        | goto t => exact (show False from hp).elim
        | panic ch => exact (show False from hp).elim
        | outgrown => exact (show False from hp).elim
      · have := hag2
        rw [← hzz] at this
        exact this
    · rintro e W2 ⟨v, rfl, h2⟩
      rcases h2 with h2 | ⟨pre, hpre, h2⟩
      · have h3 := (h2.flat (L2 := [])).pick [1, 2, 0] (by decide) rfl
        have hl := h3.obj (i := 0) rfl
        have he := run_endLoop (P := P) hl (by rw [hrec]; simp)
        have he' : (Instr.endLoop (r + 1)).run P W2 = .ok none (W2.putObj (r + 1) (.loop { rec .ready none with state := .exhausted })) := by rw [hrec] at he ⊢; exact he
        refine ⟨none, _, he', ?_⟩
        exact hdone r _ (h3.putObj _).drop1 _ ⟨ha.size, ha.at_⟩ (by rw [hds]; rfl)
      · obtain ⟨c, hc⟩ := h2.open (S := fun c : Code => [(fun h => (c = .ret ∨ ∃ id, c = .exit id) ∧ J c pre h : HP), obj (r + 1) (.loop (rec .done (some c))), obj r (.deferred (some []))]) fun h ⟨c, h1, h2⟩ => ⟨c, by
            obtain ⟨f, f1, f2, f3⟩ := h2
            refine ⟨f, fun i R hi => ?_, f2, f3⟩
            match i, hi with
            | 0, hi => simp only [List.getElem?_cons_zero, Option.some.injEq] at hi; subst hi; exact ⟨h1, f1 0 _ rfl⟩
            | i + 1, hi => exact f1 (i + 1) R hi⟩
        obtain ⟨hx, hc1, _⟩ := hc.get (i := 0) rfl
        have hc2 : Own w0 D W2 [J c pre, obj (r + 1) (.loop (rec .done (some c))), obj r (.deferred (some []))] := hc.imp fun h1 hs => hs.2
        have h3 := hc2.pick [1, 2, 0] (by decide) rfl
        have hl := h3.obj (i := 0) rfl
        have he := run_endLoop (P := P) hl (by rw [hrec]; simp)
        have he' : (Instr.endLoop (r + 1)).run P W2 = .ok (some c) (W2.putObj (r + 1) (.loop { rec .done (some c) with state := .exhausted })) := by rw [hrec] at he ⊢; exact he
        refine ⟨some c, _, he', ?_⟩
        have h4 := (h3.putObj (.loop { rec .done (some c) with state := .exhausted })).drop1
        rcases hc1.1 with rfl | ⟨id, rfl⟩
        · exact wpIn_ret (hret r pre _ hpre h4 _ ⟨ha.size, ha.at_⟩ (by rw [hds]; rfl))
        · exact wpIn_exit (hexit r id pre _ hpre h4 _ ⟨ha.size, ha.at_⟩ (by rw [hds]; rfl))
end
end Go.Proofs.Ytblpdbnklopchaa
