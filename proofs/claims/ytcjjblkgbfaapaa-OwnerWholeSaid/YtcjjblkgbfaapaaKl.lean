/-
  What a function tells, as a term: binds, loops, ways that meet; an append with the room that the runtime gives.
  Conditions: none beyond each law's own.
-/
import Derived.Test.YtcjjblkgbfaapaaKh
import Derived.Test.YtcjjblkgbfaapaaKs
import Derived.Deep.DeepAppendWide
namespace Go.Proofs.Ytcjjblkgbfaapaa
set_option linter.unusedVariables false
set_option linter.unusedSimpArgs false
open Go.RowKit
def bnd {α β : Type} (x : α) (f : α → β) : β := f x
theorem bnd_of {α β : Type} {x r : α} {f : α → β} (h : x = r) : bnd x f = f r := by subst h; rfl
def lp {α ρ : Type} (x : α ⊕ ρ) (f : α → ρ) : ρ := match x with
  | .inl a => f a
  | .inr r => r
def lpS {α σ ρ : Type} (x : α ⊕ ρ) (f : α → σ ⊕ ρ) : σ ⊕ ρ := match x with
  | .inl a => f a
  | .inr r => .inr r
theorem lp_l {α ρ : Type} {x : α ⊕ ρ} {f : α → ρ} {a : α} (h : x = .inl a) : lp x f = f a := by subst h; rfl
theorem lp_r {α ρ : Type} {x : α ⊕ ρ} {f : α → ρ} {r : ρ} (h : x = .inr r) : lp x f = r := by subst h; rfl
theorem lpS_l {α σ ρ : Type} {x : α ⊕ ρ} {f : α → σ ⊕ ρ} {a : α} (h : x = .inl a) : lpS x f = f a := by subst h; rfl
theorem lpS_r {α σ ρ : Type} {x : α ⊕ ρ} {f : α → σ ⊕ ρ} {r : ρ} (h : x = .inr r) : lpS x f = .inr r := by subst h; rfl
theorem ifF {α : Type} {b : Bool} {x y : α} (h : b = false) : (if b = true then x else y) = y := by subst h; rfl
theorem getD_of {α : Type} {ls : List α} {i : Nat} {d x : α} (h : ls[i]? = some x) : ls.getD i d = x := by
  rw [List.getD_eq_getElem?_getD, h]; rfl
theorem drop_at {α : Type} {ls : List α} {i : Nat} {x : α} (h : ls[i]? = some x) : List.drop i ls = x :: List.drop (i + 1) ls := by
  obtain ⟨hi, rfl⟩ := List.getElem?_eq_some_iff.1 h
  exact List.drop_eq_getElem_cons hi
theorem drop_end {α : Type} {ls : List α} {i : Nat} (h : ls.length ≤ i) : List.drop i ls = [] := List.drop_of_length_le h
theorem sub_at {n i : Nat} (h : i < n) : n - i = (n - (i + 1)) + 1 := by omega
theorem sub_end {n i : Nat} (h : n ≤ i) : n - i = 0 := by omega
theorem wide_room {n bytes : Nat} (h : n * bytes ≤ 211106232532992) (hb : Nat.ble bytes 1048576 = true) : (n + n / 4 + 192) * bytes ≤ 281474976710656 := by
  have hb' : bytes ≤ 1048576 := Nat.le_of_ble_eq_true hb
  have h1 : (n / 4) * bytes * 4 ≤ n * bytes := by
    rw [Nat.mul_right_comm]; exact Nat.mul_le_mul_right _ (Nat.div_mul_le_self n 4)
  rw [Nat.add_mul, Nat.add_mul]
  have h2 : 192 * bytes ≤ 192 * 1048576 := Nat.mul_le_mul_left _ hb'
  omega
section
variable {P : Program} {n : Nat} {F : List (Nat × Value)} {w0 w : World} {D : Nat → Prop} {L : List HP} {op : Op} {ty : TypeId} {v : Value} {K : Value → World → Prop} {x y : Operand} {T t : TypeId} {g o : Nat} {cs cs' xs vs : List Value}
theorem Do.appendW {A : Option Addr} {k c m e size bytes : Nat} {news : List Value} {u : Value} {tx : TypeId} (el : Elem P t e size bytes) (H : Own w0 D w (row A k c xs e size :: L)) (hx : ev F x = some (.slice A k c)) (hy : ev F y = some u) (hs : Src P size tx u m news w)
    (hb : Nat.ble bytes 1048576 = true) (hbytes : k + m ≤ 9223372036854775807 ∧ (k + m) * bytes ≤ 211106232532992) {s : Nat} {ys : List Value} (hsum : k + m = s) (hys : xs ++ news = ys) (h : ∀ A' c' w', Own w0 D w' (row A' s c' ys e size :: L) → K (.slice A' s c') w') :
    Do P n F w (.call ⟨.builtin .append, [x, y].toArray, [t, tx].toArray⟩) ty K := fun a ha o h1 h2 next Q hn => by
  obtain ⟨A', c', w', hr, H'⟩ := H.append (P := P) el hs o.type (by unfold maxLen; omega) fun _ ho' => growslice_fits_wide ho' (wide_room hbytes.2 hb)
  unfold execOp
  rw [h1]
  simp only [resolve, invoke, builtin, Sem.run_bind, Sem.run_pure, Result.andThen_ok, List.map_toArray, List.map_cons, List.map_nil, ha.eval hx, ha.eval hy, hr]
  subst hsum hys
  exact hn _ _ (h A' c' w' H')
theorem Own.rowC {A : Option Addr} {m c sz i : Nat} (H : Own w0 D w L) (hi : L[i]? = some (row A m c xs t sz)) : m ≤ c ∧ c ≤ 9223372036854775807 := by
  have := H.rowLe hi; unfold maxLen at this; omega
end
theorem pj2 {α β : Type} {a x : α} {b y : β} (h : (a, b) = (x, y)) : a = x ∧ b = y := Prod.mk.inj h
theorem pj3 {α β γ : Type} {a x : α} {b y : β} {c z : γ} (h : (a, b, c) = (x, y, z)) : a = x ∧ b = y ∧ c = z := ⟨(pj2 h).1, pj2 (pj2 h).2⟩
theorem Own.enter0 {w0 w : World} {D : Nat → Prop} {L : List HP} (H : Own w0 D w L) : ∃ D1 : Nat → Prop, Own w D1 w [] ∧ (∀ φ, Ro w0 D φ → Ro w D1 φ) ∧ (∀ w' L', Own w D1 w' L' → Own w0 D w' (L' ++ L)) ∧
    (∀ (φ : World → Prop) (i : Nat) (R : HP), L[i]? = some R → (∀ w' h, R h → (∀ k o, h k = some o → w'.heap[k]? = some o) → φ w') → Ro w D1 φ) :=
  Own.enter (L1 := []) (L2 := L) H
theorem Own.enter1 {w0 w : World} {D : Nat → Prop} {L : List HP} {R1 : HP} (H : Own w0 D w (R1 :: L)) : ∃ D1 : Nat → Prop, Own w D1 w [R1] ∧ (∀ φ, Ro w0 D φ → Ro w D1 φ) ∧ (∀ w' L', Own w D1 w' L' → Own w0 D w' (L' ++ L)) ∧
    (∀ (φ : World → Prop) (i : Nat) (R : HP), L[i]? = some R → (∀ w' h, R h → (∀ k o, h k = some o → w'.heap[k]? = some o) → φ w') → Ro w D1 φ) :=
  Own.enter (L1 := [R1]) (L2 := L) H
theorem Own.enter2 {w0 w : World} {D : Nat → Prop} {L : List HP} {R1 R2 : HP} (H : Own w0 D w (R1 :: R2 :: L)) : ∃ D1 : Nat → Prop, Own w D1 w [R1, R2] ∧ (∀ φ, Ro w0 D φ → Ro w D1 φ) ∧ (∀ w' L', Own w D1 w' L' → Own w0 D w' (L' ++ L)) ∧
    (∀ (φ : World → Prop) (i : Nat) (R : HP), L[i]? = some R → (∀ w' h, R h → (∀ k o, h k = some o → w'.heap[k]? = some o) → φ w') → Ro w D1 φ) :=
  Own.enter (L1 := [R1, R2]) (L2 := L) H
structure Ll (β : Type) where
  ls : List β
instance {β : Type} : Inhabited (Ll β) := ⟨⟨[]⟩⟩
instance {β : Type} : Inhabited (Sv β) := ⟨⟨none, 0, []⟩⟩
theorem sepL_mem {L : List HP} {R : HP} {φ : World → Prop} (hi : R ∈ L) (f : ∀ w' h, R h → (∀ k o, h k = some o → w'.heap[k]? = some o) → φ w') : ∀ w' h, sepL L h → (∀ k o, h k = some o → w'.heap[k]? = some o) → φ w' := fun w' h hs h2 =>
  let ⟨i, hi⟩ := List.mem_iff_getElem?.1 hi
  sepL_rd hi f w' h hs h2
theorem abs_at {α β : Type} {f : α → β} {ds : List α} {ls : List β} {i : Nat} {x : α} (h : List.map f ds = ls) (hx : ds[i]? = some x) : ls[i]? = some (f x) := by
  rw [← h, List.getElem?_map, hx]; rfl
theorem abs_len {α β : Type} {f : α → β} {ds : List α} {ls : List β} (h : List.map f ds = ls) : List.length ds = List.length ls := by rw [← h, List.length_map]
theorem abs_app {α β : Type} {f : α → β} {ds es : List α} {ls ms : List β} (h : List.map f ds = ls) (h2 : List.map f es = ms) : List.map f (ds ++ es) = ls ++ ms := by rw [List.map_append, h, h2]
theorem Own.sepAdd {w0 w : World} {D : Nat → Prop} {L L1 L2 L3 : List HP} (H : Own w0 D w (sepL L1 :: (L2 ++ L))) (he : L1 ++ L2 = L3) : Own w0 D w (sepL L3 :: L) := by
  subst he
  have h := H.flat
  rw [← List.append_assoc] at h
  exact h.pack
section
variable {P : Program} {n : Nat} {F : List (Nat × Value)} {w : World} {op : Op} {ty : TypeId} {v : Value} {x : Operand} {ops : Array Oper} {rest : List Oper} {Q : Exit → Act → World → Prop} {pos : String} {aft : Array Edge} {d : Nat}
theorem Mv (hd : Nat.blt d n = true) (hx : ev F x = some v) (h : WL P ops Q rest n ((d, v) :: F) w) : WL P ops Q (⟨some d, .move x, ty, pos, aft, none⟩ :: rest) n F w := WL.val hd (Yl.move hx) h
theorem As (hd : Nat.blt d n = true) (hx : ev F x = some v) (h : WL P ops Q rest n ((d, v) :: F) w) : WL P ops Q (⟨some d, .assign x, ty, pos, aft, none⟩ :: rest) n F w := WL.val hd (Yl.assign hx) h
theorem Kn (hd : Nat.blt d n = true) (hk : known F op.operands.toList = true) (hs : nosel op = true) (hr : ∀ W, (execOp (rho F) ⟨none, op, ty, "", #[], none⟩).run P W = .ok (.value v) W) (h : WL P ops Q rest n ((d, v) :: F) w) : WL P ops Q (⟨some d, op, ty, pos, aft, none⟩ :: rest) n F w :=
  WL.val hd (Yl.kern hk hs hr) h
theorem Sk {j t : Nat} {b b' : Bool} (hj : (ops[j]?).bind (·.dst) = some t) (hv : look F t = some (.bool b')) (hb : b' = !b) (hd : Nat.blt d n = true) (h : WL P ops Q rest n ((d, undef) :: F) w) :
    WL P ops Q (⟨some d, op, ty, pos, aft, some (j, b)⟩ :: rest) n F w := WL.skipG hj hv hb hd h
end
def lsd (n : Nat) : List Nat → Array Bool
  | [] => Array.replicate n false
  | i :: r => (lsd n r).setIfInBounds i true
def GX (P : Program) (ops : Array Oper) (Q : Exit → Act → World → Prop) (ks : List Nat) (Good : World → Prop) (fuel : Nat) (l : List Nat) (n : Nat) (F : List (Nat × Value)) (w : World) : Prop :=
  NoP Q → Region.noSelect ops = true → GW P ops Q (Keep ks Good) fuel (lsd ops.size l) n F w
def tk (ops : Array Oper) (ks : List Nat) (rs : List (List Nat)) (i : Nat) (l : List Nat) (d n : Nat) : Bool :=
  Region.free .any ops (lsd ops.size l) i && (Region.ready .any ops (lsd ops.size l)).contains i && ways ops i ks rs && Nat.blt d n
section
variable {P : Program} {ops : Array Oper} {Q : Exit → Act → World → Prop} {ks : List Nat} {Good : World → Prop} {n : Nat} {F : List (Nat × Value)} {w : World} {op : Op} {ty : TypeId} {v : Value} {fuel : Nat} {l : List Nat} {pos : String} {aft : Array Edge} {d : Nat}
theorem Wp.drawnX {i : Nat} {l : List Oper} (ks : List Nat) (Good : World → Prop) (hm : P.follows .mixedOrders = true) (hns : Region.noSelect l.toArray = true) (hQ : NoP Q) (hS : Good w.drew)
    (h : GX P l.toArray Q ks Good l.length [] n F w.drew) : Wp P (.region i l.toArray true) n F w Q :=
  Wp.drawn (Keep ks Good) hm (.inr hS) (h hQ hns)
theorem GX.take {rs : List (List Nat)} (i : Nat) (hi : ops[i]? = some ⟨some d, op, ty, pos, aft, none⟩) (hk : tk ops ks rs i l d n = true)
    (hy : ∀ W, Good W → Yl P n F W op ty v) (h : GX P ops Q ks Good fuel (i :: l) n ((d, v) :: F) w) : GX P ops Q ks Good (fuel + 1) l n F w := fun hQ hs => by
  simp only [tk, Bool.and_eq_true] at hk
  exact GW.take hi hs hk.2 hQ hk.1.1.1 hk.1.1.2 hk.1.2 rfl hy (h hQ hs)
theorem GX.takeG {rs : List (List Nat)} (i : Nat) {j t : Nat} {b b' : Bool} (hi : ops[i]? = some ⟨some d, op, ty, pos, aft, some (j, b)⟩) (hj : (ops[j]?).bind (·.dst) = some t) (hv : look F t = some (.bool b')) (hb : b' = b) (hk : tk ops ks rs i l d n = true)
    (hy : ∀ W, Good W → Yl P n F W op ty v) (h : GX P ops Q ks Good fuel (i :: l) n ((d, v) :: F) w) : GX P ops Q ks Good (fuel + 1) l n F w := fun hQ hs => by
  simp only [tk, Bool.and_eq_true] at hk
  exact GW.takeG hi hj hv hb hs hk.2 hQ hk.1.1.1 hk.1.1.2 hk.1.2 rfl hy (h hQ hs)
theorem GX.skipG {rs : List (List Nat)} (i : Nat) {j t : Nat} {b b' : Bool} (hi : ops[i]? = some ⟨some d, op, ty, pos, aft, some (j, b)⟩) (hj : (ops[j]?).bind (·.dst) = some t) (hv : look F t = some (.bool b')) (hb : b' = !b) (hk : tk ops ks rs i l d n = true)
    (h : GX P ops Q ks Good fuel (i :: l) n ((d, undef) :: F) w) : GX P ops Q ks Good (fuel + 1) l n F w := fun hQ hs => by
  simp only [tk, Bool.and_eq_true] at hk
  exact GW.skipG hi hj hv hb hs hk.2 hQ hk.1.1.1 hk.1.1.2 hk.1.2 rfl (h hQ hs)
theorem GX.skipUG {rs : List (List Nat)} (i : Nat) {j t : Nat} {b : Bool} (hi : ops[i]? = some ⟨some d, op, ty, pos, aft, some (j, b)⟩) (hj : (ops[j]?).bind (·.dst) = some t) (hv : look F t = some undef) (hk : tk ops ks rs i l d n = true)
    (h : GX P ops Q ks Good fuel (i :: l) n ((d, undef) :: F) w) : GX P ops Q ks Good (fuel + 1) l n F w := fun hQ hs => by
  simp only [tk, Bool.and_eq_true] at hk
  exact GW.skipUG hi hj hv hs hk.2 hQ hk.1.1.1 hk.1.1.2 hk.1.2 rfl (h hQ hs)
def tkA (ops : Array Oper) (ks : List Nat) (i : Nat) (l : List Nat) (d n : Nat) : Bool :=
  Region.free .any ops (lsd ops.size l) i && (Region.ready .any ops (lsd ops.size l)).contains i && !(ks.contains i) && Nat.blt d n
theorem GX.takeA (i : Nat) (hi : ops[i]? = some ⟨some d, op, ty, pos, aft, none⟩) (hk : tkA ops ks i l d n = true)
    (hy : ∀ W, Yl P n F W op ty v) (h : GX P ops Q ks Good fuel (i :: l) n ((d, v) :: F) w) : GX P ops Q ks Good (fuel + 1) l n F w := fun hQ hs => by
  simp only [tkA, Bool.and_eq_true, Bool.not_eq_true'] at hk
  exact GW.takeA hi hs hk.2 hQ hk.1.1.1 hk.1.1.2 hk.1.2 rfl hy (h hQ hs)
theorem GX.more {Good' : World → Prop} (hle : ∀ W, Good' W → Good W) (h0 : Good' w) (h : GX P ops Q ks Good' fuel l n F w) : GX P ops Q ks Good fuel l n F w := fun hQ hs => GW.more hle h0 (h hQ hs)
def dx (ops : Array Oper) (i : Nat) (l : List Nat) : Bool := decide (Region.ready .any ops (lsd ops.size l) = [i])
theorem GX.do (i : Nat) (hi : ops[i]? = some ⟨some d, op, ty, pos, aft, none⟩) (hk : (dx ops i l && Nat.blt d n) = true)
    (h : Do P n F w op ty fun v w' => (ks.any (fun k => (lsd ops.size (i :: l)).getD k false) = true ∨ Good w') ∧ GX P ops Q ks Good fuel (i :: l) n ((d, v) :: F) w') : GX P ops Q ks Good (fuel + 1) l n F w := fun hQ hs => by
  simp only [dx, Bool.and_eq_true, decide_eq_true_eq] at hk
  exact GW.do hi hk.2 hk.1 rfl (h.mono fun v w' k => ⟨k.1, k.2 hQ hs⟩)
theorem GX.do0 (i : Nat) (hi : ops[i]? = some ⟨none, op, ty, pos, aft, none⟩) (hk : dx ops i l = true)
    (h : Do P n F w op ty fun _ w' => (ks.any (fun k => (lsd ops.size (i :: l)).getD k false) = true ∨ Good w') ∧ GX P ops Q ks Good fuel (i :: l) n F w') : GX P ops Q ks Good (fuel + 1) l n F w := fun hQ hs => by
  simp only [dx, decide_eq_true_eq] at hk
  exact GW.do0 hi hk rfl (h.mono fun v w' k => ⟨k.1, k.2 hQ hs⟩)
theorem GX.doG (i : Nat) {j t : Nat} {b b' : Bool} (hi : ops[i]? = some ⟨some d, op, ty, pos, aft, some (j, b)⟩) (hj : (ops[j]?).bind (·.dst) = some t) (hv : look F t = some (.bool b')) (hb : b' = b) (hk : (dx ops i l && Nat.blt d n) = true)
    (h : Do P n F w op ty fun v w' => (ks.any (fun k => (lsd ops.size (i :: l)).getD k false) = true ∨ Good w') ∧ GX P ops Q ks Good fuel (i :: l) n ((d, v) :: F) w') : GX P ops Q ks Good (fuel + 1) l n F w := fun hQ hs => by
  simp only [dx, Bool.and_eq_true, decide_eq_true_eq] at hk
  exact GW.doG hi hj hv hb hk.2 hk.1 rfl (h.mono fun v w' k => ⟨k.1, k.2 hQ hs⟩)
theorem GX.done (hk : (Region.ready .any ops (lsd ops.size l)).isEmpty = true) (h : Fin Q .normal n F w) : GX P ops Q ks Good fuel l n F w := fun _ _ =>
  GW.done (List.isEmpty_iff.1 hk) h
end
end Go.Proofs.Ytcjjblkgbfaapaa
