/-
  The library's slices in memory of the call's own: a row with its spare room as one; append, clear, copy within it; strings compared; slices that do not overlap.
  Conditions: none beyond each law's own.
-/
import Derived.Test.YtcjjblkgbfaapaaKl
import Derived.Lib.Bytealg
import Derived.Lib.Overlaps
import Derived.Lib.AppendZerosOnto
namespace Go.Proofs.Ytcjjblkgbfaapaa
set_option linter.unusedVariables false
set_option linter.unusedSimpArgs false
open Go.RowKit
section
variable {P : Program} {n : Nat} {F : List (Nat × Value)} {w0 w : World} {D : Nat → Prop} {L : List HP} {op : Op} {ty : TypeId} {v : Value} {K : Value → World → Prop} {x y : Operand} {T t : TypeId} {g o : Nat} {cs cs' xs vs ys news : List Value}
theorem Yl.cmpStr {f : FuncId} {args : List Operand} {tys : Array TypeId} {a b : List UInt8} (hr : ∀ (bs : Array Value) (W : World), (callFunc f bs).run P W = ((Extern.BytealgCompare.compare bs).run P W).andThen fun v w' => .ok (.value v) w') (ha : evl F args = some [.string ⟨a.toArray⟩, .string ⟨b.toArray⟩]) :
    Yl P n F w (.call ⟨.value (.func f), args.toArray, tys⟩) ty (.int .i64 (Lib.compareBytes a b)) := fun ac hag o h1 _ => by
  unfold execOp
  rw [h1]
  have he := hag.evals ha
  simp [resolve, Act.eval, Deferred.ofValue, invoke, he, hr, Lib.run_compareString, Result.andThen]
theorem Own.rowFull {A : Option Addr} {m c sz : Nat} (H : Own w0 D w (row A m c xs t sz :: L)) : ∃ sp : List Value, sp.length = (c - m) * sz ∧ Own w0 D w (row A c c (xs ++ sp) t sz :: L) := by
  obtain ⟨h, hR, h2⟩ := H.get (i := 0) rfl
  have hle := H.rowLe (i := 0) rfl
  rcases hR.2 with ⟨rfl, rfl, rfl⟩ | ⟨g, cur, fz, rfl, q1, q2, q3, q4, q5, q6⟩
  · exact ⟨[], by simp, by rw [List.append_nil]; exact H⟩
  · have hcl : cur.toList.length = cur.size := Array.length_toList
    refine ⟨cur.toList.drop (m * sz), by rw [List.length_drop, hcl, q4, Nat.sub_mul], H.upd rfl rfl rfl (Nat.le_refl _) fun k1 ⟨r0, r1⟩ hk => ?_⟩
    rcases r1 with ⟨e, _⟩ | ⟨g', cur', fz', e, s1, s2, s3, s4, s5, s6⟩
    · cases e
    · injection e with e
      injection e with e
      subst e
      have hcc := hk g _ s1
      rw [h2 g _ q1] at hcc
      injection hcc with hcc
      injection hcc with e1 _ e3
      subst e1 e3
      refine ⟨k1, ⟨?_, .inr ⟨g, cur, fz, rfl, s1, Nat.le_refl _, s3, s4, ?_, s6⟩⟩, fun k o hk' => ⟨hk k o hk', .inl (by rw [hk']; exact Option.some_ne_none _)⟩, fun _ _ _ => rfl⟩
      · rw [← s5, List.take_append_drop, hcl, q4]
      · rw [← s5, List.take_append_drop, ← q4, ← hcl, List.take_length]
theorem Own.rowPart {A : Option Addr} {m k c sz : Nat} (H : Own w0 D w (row A m c xs t sz :: L)) (hk : k ≤ m) (hys : xs.take (k * sz) = ys) : Own w0 D w (row A k c ys t sz :: L) := H.rowTake hk hys
theorem Own.room {A : Option Addr} {c k m sz : Nat} {u : Value} {tx : TypeId} (H : Own w0 D w (row A c c xs t sz :: L)) (hz : 0 < sz) (hs : Src P sz tx u m news w) (hroom : k + m ≤ c) :
    ∃ w', (match A with | some a => storeCells (a.add (k * sz)) news 0 | none => pure ()).run P w = .ok () w' ∧ Own w0 D w' (row A c c (put xs (k * sz) news) t sz :: L) := by
  have hle := H.rowLe (i := 0) rfl
  rcases Nat.eq_zero_or_pos m with h0 | h0
  · have hn : news = [] := List.eq_nil_of_length_eq_zero (by rw [hs.newsLen, h0, Nat.zero_mul])
    subst hn
    have hp : put xs (k * sz) [] = xs := by simp [put]
    rw [hp]
    refine ⟨w, ?_, H⟩
    cases A <;> rfl
  · have hc : 0 < c := by omega
    have hA := (H.rds (i := 0) rfl).isSome hc
    have hl : news.length = m * sz := hs.newsLen
    obtain ⟨w', h1, h2⟩ := H.storeRow (P := P) (vs := news) (o := k * sz) (by rw [List.all_eq_true]; exact fun u hu => hs.one u hu) (by rw [hl]; exact Nat.mul_pos h0 hz) (by rw [hl, hle.2.2, ← Nat.add_mul]; exact Nat.mul_le_mul_right _ hroom) rfl
    refine ⟨w', ?_, h2⟩
    rw [hA]
    simp only [add0]
    exact h1
theorem Do.appendRoom {A : Option Addr} {k c m e size bytes : Nat} {u : Value} {tx : TypeId} (el : Elem P t e size bytes) (H : Own w0 D w (row A c c xs e size :: L)) (hx : ev F x = some (.slice A k c)) (hy : ev F y = some u) (hs : Src P size tx u m news w)
    (hroom : k + m ≤ c) {s : Nat} (hsum : k + m = s) (h : ∀ w', Own w0 D w' (row A c c (put xs (k * size) news) e size :: L) → K (.slice A s c) w') :
    Do P n F w (.call ⟨.builtin .append, [x, y].toArray, [t, tx].toArray⟩) ty K := fun a ha o h1 h2 next Q hn => by
  obtain ⟨i, z, ht, hi, hz, rfl, rfl, hzs, hsz⟩ := el
  obtain ⟨w', hst, H'⟩ := H.room (P := P) hsz hs hroom
  unfold execOp
  rw [h1]
  subst hsum
  have hrun : (Builtin.append_ #[t, tx] o.type #[.slice A k c, u]).run P w = .ok (.slice A (k + m) c) w' := by
    rcases hs.kind with ⟨e', hk⟩ | hk <;> cases A <;> simp [Builtin.append_, run_underlying ht, run_underlying hk, sizeOf, typeInfo, hi, hs.len, hroom, hs.cells] <;> simp at hst <;> first | (rw [hst]; rfl) | (subst hst; rfl) | (rw [hst])
  simp only [resolve, invoke, builtin, Sem.run_bind, Sem.run_pure, Result.andThen_ok, List.map_toArray, List.map_cons, List.map_nil, ha.eval hx, ha.eval hy, hrun]
  exact hn _ _ (h w' H')
theorem Do.clear {A Ad : Option Addr} {lo nd cd c e size bytes : Nat} {z0 : Value} (hz0 : (P.info? e).map (·.zero) = some (some z0)) (h10 : z0.cells.toList.all Value.oneCell' = true) (el : Elem P t e size bytes) (H : Own w0 D w (row A c c xs e size :: L)) (hx : ev F x = some (.slice Ad nd cd)) (hA : 0 < nd → Ad = some ⟨ab A, ao A + lo * size, none⟩) (hfit : lo + nd ≤ c)
    (h : ∀ w' zs, zs.length = nd * size → Own w0 D w' (row A c c (put xs (lo * size) zs) e size :: L) → K (.tuple #[]) w') :
    Do P n F w (.call ⟨.builtin .clear, [x].toArray, [t].toArray⟩) ty K := fun a ha o h1 h2 next Q hn => by
  obtain ⟨i, z, ht, hi, hz, rfl, rfl, hzs, hsz⟩ := el
  have hle := H.rowLe (i := 0) rfl
  have key : ∃ w' zs, zs.length = nd * i.size ∧ (Builtin.clear_ #[t] o.type #[.slice Ad nd cd]).run P w = .ok (.tuple #[]) w' ∧ Own w0 D w' (row A c c (put xs (lo * i.size) zs) e i.size :: L) := by
    rcases Nat.eq_zero_or_pos nd with h0 | h0
    · subst h0
      refine ⟨w, [], by simp, ?_, by simpa [put] using H⟩
      cases Ad <;> simp [Builtin.clear_, run_underlying ht]
    · have hAd := hA h0
      subst hAd
      have hzl : (Builtin.zeroCells z.cells nd).toList.length = nd * i.size := by rw [Array.length_toList, size_of_zero, hzs]
      have hone : (Builtin.zeroCells z.cells nd).toList.all Value.oneCell' = true := by
        have hzz : z = z0 := by
          rw [hi] at hz0
          simp only [Option.map_some, hz, Option.some.injEq] at hz0
          exact hz0
        subst hzz
        rw [List.all_eq_true]
        intro u hu
        simp only [Builtin.zeroCells] at hu
        simp at hu
        obtain ⟨q, hq, rfl⟩ := hu
        have hlt : q % z.cells.size < z.cells.size := Nat.mod_lt _ (by omega)
        rw [getElem!_pos z.cells _ hlt]
        exact (List.all_eq_true.1 h10) _ (by simp)
      obtain ⟨w', r1, r2⟩ := H.storeRow (P := P) (vs := (Builtin.zeroCells z.cells nd).toList) (o := lo * i.size) hone (by rw [hzl]; exact Nat.mul_pos h0 hsz) (by rw [hzl, hle.2.2, ← Nat.add_mul]; exact Nat.mul_le_mul_right _ hfit) rfl
      refine ⟨w', _, hzl, ?_, r2⟩
      obtain ⟨j, hj⟩ : ∃ j, nd = j + 1 := ⟨nd - 1, by omega⟩
      subst hj
      simp [Builtin.clear_, run_underlying ht, zeroValue, typeInfo, hi, hz, r1]
  obtain ⟨w', zs, hzl, hrun, H'⟩ := key
  unfold execOp
  rw [h1]
  simp only [resolve, invoke, builtin, Sem.run_bind, Sem.run_pure, Result.andThen_ok, List.map_toArray, List.map_cons, List.map_nil, ha.eval hx, hrun]
  exact hn _ _ (h w' zs hzl H')
theorem Do.copyT {A Ad B : Option Addr} {q c nd cd m cm lo k e size bytes : Nat} {tx : TypeId} (el : Elem P t e size bytes) (H : Own w0 D w (row A q c xs e size :: L)) (hx : ev F x = some (.slice Ad nd cd)) (hA : 0 < nd → Ad = some ⟨ab A, ao A + lo * size, none⟩) (hfit : lo + nd ≤ q)
    (hy : ev F y = some (.slice B m cm)) (hr : Rds w size B m news) (hk : min m nd = k) (h1 : ∀ u ∈ news.take (k * size), u.oneCell' = true) (hys : put xs (lo * size) (news.take (k * size)) = ys) (h : ∀ w', Own w0 D w' (row A q c ys e size :: L) → K (.int .i64 (k : Int)) w') :
    Do P n F w (.call ⟨.builtin .copy, [x, y].toArray, [t, tx].toArray⟩) ty K := fun a ha o h2 h3 next Q hn => by
  obtain ⟨i, z, ht, hi, hz, rfl, rfl, hzs, hsz⟩ := el
  have hfc := firstCells_rds (P := P) (k := k) (c := cm) hr (by omega)
  have hlen : (news.take (k * i.size)).length = k * i.size := by
    rw [List.length_take, hr.1]
    exact Nat.min_eq_left (Nat.mul_le_mul_right _ (by omega))
  have hxl := H.rowLe (i := 0) rfl
  have key : ∃ w', (match Ad with | some a => storeCells a (news.take (k * i.size)) 0 | none => pure ()).run P w = .ok () w' ∧ Own w0 D w' (row A q c ys e i.size :: L) := by
    rcases Nat.eq_zero_or_pos k with h0 | h0
    · subst h0
      have hn0 : news.take (0 * i.size) = [] := by simp
      rw [hn0] at hys ⊢
      have : ys = xs := by rw [← hys]; simp [put]
      subst this
      refine ⟨w, ?_, H⟩
      cases Ad <;> rfl
    · have hnd : 0 < nd := by omega
      have hAd := hA hnd
      subst hAd
      have hpos : 0 < (news.take (k * i.size)).length := by rw [hlen]; exact Nat.mul_pos h0 hsz
      exact H.storeRow (P := P) (by rw [List.all_eq_true]; exact fun u hu => h1 u hu) hpos (by
        rw [hlen, hxl.2.2, ← Nat.add_mul]
        exact Nat.mul_le_mul_right _ (by omega)) hys
  obtain ⟨w', hst, H'⟩ := key
  unfold execOp
  rw [h2]
  have hrun : (Builtin.copy_ #[t, tx] o.type #[.slice Ad nd cd, .slice B m cm]).run P w = .ok (.int .i64 (k : Int)) w' := by
    simp only [Builtin.copy_, List.getElem?_toArray, List.getElem?_cons_zero, List.getElem?_cons_succ, Sem.run_bind, run_underlying ht, Result.andThen_ok, Builtin.lenOf, Sem.run_pure, sizeOf, typeInfo]
    have hmin : Nat.min m nd = k := hk
    simp [hi, hmin, hfc, Result.andThen]
    cases Ad with
    | none =>
      simp only [Sem.run_pure] at hst
      injection hst with _ hw
      subst hw
      rfl
    | some b =>
      simp only at hst
      simp [hst, Result.andThen, goInt]
  simp only [resolve, invoke, builtin, Sem.run_bind, Sem.run_pure, Result.andThen_ok, List.map_toArray, List.map_cons, List.map_nil, ha.eval hx, ha.eval hy, hrun]
  exact hn _ _ (h w' H')
def rowz (A : Option Addr) (m : Nat) (xs : List Value) (t : TypeId) (sz : Nat) : HP := fun h => xs.length = m * sz ∧ ∃ g, A = some ⟨g, 0, none⟩ ∧ h g = some (.cells xs.toArray t (0, 0))
theorem Do.newRowZ {sz m : Nat} (H : Own w0 D w L) (hk : known F op.operands.toList = true) (hs0 : nosel op = true) (hr : ∀ W, (execOp (rho F) ⟨none, op, ty, "", #[], none⟩).run P W = .ok (.value (.slice (some ⟨W.heap.size, 0, none⟩) m m)) (W.alloc (.cells cs.toArray t (0, 0))))
    (hl : cs.length = m * sz) (h : ∀ A w', Own w0 D w' (rowz A m cs t sz :: L) → K (.slice A m m) w') : Do P n F w op ty K := fun a ha o h1 h2 next Q hn => by
  have hs := nosel_of hs0
  have e : execOp a.eval o = execOp (rho F) o := execOp_congr o (by rw [h1]; exact hs) fun x hx => known_of ha hk x (by rw [h1] at hx; simpa using hx)
  have e2 : execOp (rho F) o = execOp (rho F) ⟨none, op, ty, "", #[], none⟩ := by
    unfold execOp
    rw [h1, h2]
  rw [e, e2, hr w]
  exact hn _ _ (h _ _ (H.alloc _ ⟨hl, w.heap.size, rfl, by simp⟩))
theorem rowz_rds {A : Option Addr} {m sz : Nat} (w' : World) (h : Nat → Option Obj) (hr : rowz A m xs t sz h) (h2 : ∀ k o, h k = some o → w'.heap[k]? = some o) : Rds w' sz A m xs := by
  obtain ⟨hl, g, rfl, hg⟩ := hr
  refine ⟨hl, fun _ => ⟨rfl, fun j u hj => ?_⟩⟩
  show w'.cell? ⟨g, 0 + j, none⟩ = some u
  rw [cell_of_row w' g (0 + j) _ t (0, 0) (h2 g _ hg), Nat.zero_add, List.getElem?_toArray]
  exact hj
theorem Yl.overlapsNo {f : FuncId} {args : List Operand} {tys : Array TypeId} {A B Bd : Option Addr} {m c nd cd tS tR e size lo : Nat} {zs : List Value} {t2 : TypeId} (hrun : ∀ (bs : Array Value) (W : World), (callFunc f bs).run P W = ((Extern.SlicesOverlaps.overlaps #[tS, tS] #[tR] bs).run P W).andThen fun v w' => .ok (.value v) w') (ht : P.underlying tS = some (.slice e)) (hz : ∀ w, (Go.sizeOf e).run P w = .ok size w)
    (H : Own w0 D w (rowz A m zs t size :: row B c c xs t2 size :: L)) (hsz : 0 < size) (hc : 0 < c) (ha : evl F args = some [.slice A m m, .slice Bd nd cd]) (hB : Bd = some ⟨ab B, ao B + lo * size, none⟩) :
    Yl P n F w (.call ⟨.value (.func f), args.toArray, tys⟩) ty (.bool false) := fun ac hag o h1 _ => by
  obtain ⟨hh, hown, fs, f1, f2, f3⟩ := H.own
  obtain ⟨hl, g, rfl, hg⟩ := f1 0 _ rfl
  have hgw := (hown g _ (f2 0 g _ hg)).1
  obtain ⟨hxl, hR⟩ := f1 1 _ rfl
  rcases hR with ⟨_, _, h0⟩ | ⟨g2, cur, fz, rfl, q1, q2, q3, q4, q5, q6⟩
  · omega
  have hg2w := (hown g2 _ (f2 1 g2 _ q1)).1
  have hne : g ≠ g2 := fun e => by
    subst e
    rcases f3 0 1 g (by decide) with e | e
    · rw [hg] at e; cases e
    · rw [q1] at e; cases e
  subst hB
  have hpos : cur.size ≠ 0 := by rw [q4]; exact Nat.ne_of_gt (Nat.mul_pos hc hsz)
  have hov := Lib.run_overlaps_apart (P := P) w tS tR e ht size hz ⟨g, 0, none⟩ ⟨g2, lo * size, none⟩ m m nd cd hne t t2 zs.toArray.size cur.size (by simp [World.shape?, hgw]) (by simp [World.shape?, hg2w]) hpos (by simp [World.frozen?, hgw]) (by simp [World.frozen?, hgw])
  unfold execOp
  rw [h1]
  have he := hag.evals ha
  simp only [ab, ao, Nat.zero_add] at he
  simp [resolve, Act.eval, Deferred.ofValue, invoke, he, hrun, hov, Result.andThen]
theorem Do.appendZeros {A : Option Addr} {q k c m e size bytes : Nat} {tn : TypeId} {kn kq : IntKind} (el : Elem P t e size bytes) (htn : P.underlying tn = some (.int kn)) (H : Own w0 D w (row A q c xs e size :: L)) (hx : ev F x = some (.slice A k c)) (hy : ev F y = some (.int kq (m : Int)))
    (hkq : k ≤ q) (hg : c < k + m) (hm : 0 < m) (hb : Nat.ble bytes 1048576 = true) (hbytes : k + m ≤ 9223372036854775807 ∧ (k + m) * bytes ≤ 211106232532992) {s : Nat} (hsum : k + m = s)
    (h : ∀ A' c' zs w', zs.length = m * size → Own w0 D w' (row A' s c' (xs.take (k * size) ++ zs) e size :: row A q c xs e size :: L) → K (.slice A' s c') w') :
    Do P n F w (.call ⟨.builtin .append, [x, y].toArray, [t, tn].toArray⟩) ty K := fun a ha o h1 h2 next Q hn => by
  obtain ⟨i, z, ht, hi, hz, rfl, rfl, hzs, hsz⟩ := el
  have hle := H.rowLe (i := 0) rfl
  have hkl : (xs.take (k * i.size)).length = k * i.size := by rw [List.length_take, hle.2.2]; exact Nat.min_eq_left (Nat.mul_le_mul_right _ hkq)
  have hR : Rds w i.size A k (xs.take (k * i.size)) := by
    have := (H.rds (i := 0) rfl).sub (k := 0) (m := k) (A' := A) (by omega) (fun hk => by rw [Nat.zero_mul, Nat.add_zero]; exact (H.rds (i := 0) rfl).isSome (by omega))
    simpa using this
  have hold : (Builtin.firstCells i.size k (.slice A k c)).run P w.drew = .ok (xs.take (k * i.size)).toArray w.drew := by
    rcases Nat.eq_zero_or_pos k with h0 | h0
    · subst h0
      cases A <;> simp [Builtin.firstCells] <;> rfl
    · rw [hR.isSome h0]
      exact run_firstCells_some w.drew i.size k _ k c _ hkl fun j v hj => by
        rw [add0]; exact hR.cell hj
  have hr := Lib.run_append_grow_zeros (P := P) w t tn o.type e i z kq kn ht htn hi hz A k c _ hold m hm hsz hg (by omega) (Nat.le_trans (Nat.mul_le_mul_right _ (by omega : m ≤ k + m)) (by omega)) (growslice_fits_wide hg (wide_room hbytes.2 hb))
  unfold execOp
  rw [h1]
  simp only [resolve, invoke, builtin, Sem.run_bind, Sem.run_pure, Result.andThen_ok, List.map_toArray, List.map_cons, List.map_nil, ha.eval hx, ha.eval hy, hr]
  subst hsum
  have hzl : (Builtin.zeroCells z.cells m).toList.length = m * i.size := by rw [Array.length_toList, size_of_zero, hzs]
  have hge := grownCap_ge w (k + m) c e
  refine hn _ _ (h _ _ (Builtin.zeroCells z.cells m).toList _ hzl (H.drew.alloc _ ⟨by rw [List.length_append, hkl, hzl, Nat.add_mul], .inr ⟨w.heap.size, _, (0, 0), rfl, by simp; rfl, hge, grownCap_le_maxLen w (k + m) c e (by unfold maxLen; omega), ?_, ?_, Okf.zero _⟩⟩))
  · rw [Array.size_append, Array.size_append, size_of_zero, size_of_zero, hzs, List.size_toArray, hkl, ← Nat.add_mul, ← Nat.add_mul]
    congr 1
    omega
  · have e1 : (k + m) * i.size = (xs.take (k * i.size) ++ (Builtin.zeroCells z.cells m).toList).length := by rw [List.length_append, hkl, hzl, Nat.add_mul]
    rw [e1, Array.toList_append, Array.toList_append, ← List.append_assoc]
    exact List.take_left
end
section
variable {P : Program} {n : Nat} {F : List (Nat × Value)} {w : World} {ty T e sz bytes m c : Nat} {A : Option Addr} {x : Operand}
theorem run_cut4 (el : Elem P T e sz bytes) {i j q : Nat} {k k' k2 : IntKind} (h0 : i ≤ j) (h1 : j ≤ q) (h2 : q ≤ c) : ∃ B, (Instr.slice T (.slice A m c) (some (.int k (i : Int))) (some (.int k' (j : Int))) (some (.int k2 (q : Int)))).run P w = .ok (.slice B (j - i) (q - i)) w := by
  obtain ⟨i', _, ht, hi, _, rfl, _⟩ := el
  have ht' : P.underlying T = some (.slice (P.elem T)) := by rw [elem_eq ht]; exact ht
  rw [run_slice_any w T A m c ht']
  simp [Instr.sliceBounds, Instr.sliceBound, asIntOf, h0, h1, h2, Result.andThen, sizeOf, typeInfo, elem_eq ht, hi, sliced]
theorem Do.cut4 {K : Value → World → Prop} {lx hx' mx : Operand} {i j q : Nat} {k k' k2 : IntKind} (el : Elem P T e sz bytes) (hx : ev F x = some (.slice A m c)) (hl : ev F lx = some (.int k (i : Int))) (hh : ev F hx' = some (.int k' (j : Int))) (hm : ev F mx = some (.int k2 (q : Int))) (h0 : i ≤ j) (h1 : j ≤ q) (h2 : q ≤ c)
    (h : ∀ B, K (.slice B (j - i) (q - i)) w) : Do P n F w (.slice T x (some lx) (some hx') (some mx)) ty K := by
  obtain ⟨B, hB⟩ := run_cut4 (P := P) (w := w) (A := A) (m := m) (k := k) (k' := k') (k2 := k2) el h0 h1 h2
  exact (Yl.sl (lo := some lx) (hi := some hx') (mx := some mx) (lo' := some (.int k (i : Int))) (hi' := some (.int k' (j : Int))) (mx' := some (.int k2 (q : Int))) el hx (by simp [hl]) (by simp [hh]) (by simp [hm]) hB).do (h B)
end
section
variable {α : Type} {enc : α → List Value} {sz : Nat}
theorem take_put {a v : List Value} {o k : Nat} (h : k ≤ o) (ho : o ≤ a.length) : (put a o v).take k = a.take k := by
  unfold put
  rw [List.append_assoc, List.take_append_of_le_length (by rw [List.length_take]; omega), List.take_take, Nat.min_eq_left h]
theorem take_putAll {a v : List Value} {o k : Nat} (ho : o ≤ a.length) (hk : k = o + v.length) : (put a o v).take k = a.take o ++ v := by
  subst hk
  unfold put
  have : o + v.length = (a.take o ++ v).length := by rw [List.length_append, List.length_take]; omega
  rw [this]
  exact List.take_left
theorem take_flatApp (hz : ∀ x, (enc x).length = sz) {l : List α} {sp : List Value} {k : Nat} (hk : k ≤ l.length) : (List.flatMap enc l ++ sp).take (k * sz) = List.flatMap enc (List.take k l) := by
  rw [List.take_append_of_le_length (by rw [flat_len hz]; exact Nat.mul_le_mul_right _ hk), flat_take hz]
theorem del_cells (hz : ∀ x, (enc x).length = sz) {l : List α} {sp zs : List Value} {i j N : Nat} (hij : i ≤ j) (hj : j ≤ l.length) (hN : N = List.length (List.take i l ++ List.drop j l)) :
    List.take (N * sz) (put (put (List.flatMap enc l ++ sp) (i * sz) (List.flatMap enc (List.drop j l))) (N * sz) zs) = List.flatMap enc (List.take i l ++ List.drop j l) := by
  have hN' : N = i + (l.length - j) := by rw [hN, List.length_append, List.length_take, List.length_drop]; omega
  have h1 : i * sz ≤ l.length * sz := Nat.mul_le_mul_right _ (by omega)
  have h2 : N * sz ≤ l.length * sz := Nat.mul_le_mul_right _ (by omega)
  have hl : (List.flatMap enc l ++ sp).length = l.length * sz + sp.length := by rw [List.length_append, flat_len hz]
  have hd : (List.flatMap enc (List.drop j l)).length = (l.length - j) * sz := by rw [flat_len hz, List.length_drop]
  have hs : i * sz + (l.length - j) * sz = N * sz := by rw [← Nat.add_mul, hN']
  rw [take_put (Nat.le_refl _) (by rw [put_len (by rw [hl, hd]; omega), hl]; omega), take_putAll (by rw [hl]; omega) (by rw [hd, hs]), take_flatApp hz (by omega), ← List.flatMap_append]
theorem ins_grow (hz : ∀ x, (enc x).length = sz) {l : List α} {x : α} {zs : List Value} {i N k1 k2 : Nat} (hi : i ≤ l.length) (hzs : zs.length = (l.length + 1 - i) * sz) (h1 : k1 = 1) (h2 : k2 = l.length - i) (hN : N = l.length + 1) :
    List.take (N * sz) (put (put ((List.flatMap enc l).take (i * sz) ++ zs) (i * sz) ((List.flatMap enc [x]).take (k1 * sz))) ((i + 1) * sz) ((List.flatMap enc (List.drop i l)).take (k2 * sz))) = List.flatMap enc (List.take i l ++ (x :: List.drop i l)) := by
  subst h1 h2 hN
  have hx : (List.flatMap enc [x]).take (1 * sz) = enc x := by
    simp only [List.flatMap_cons, List.flatMap_nil, List.append_nil, Nat.one_mul]
    rw [← hz x, List.take_length]
  have hdl : (List.flatMap enc (List.drop i l)).length = (l.length - i) * sz := by rw [flat_len hz, List.length_drop]
  rw [hx, ← hdl, List.take_length, flat_take hz]
  have ht : (List.flatMap enc (List.take i l)).length = i * sz := by rw [flat_len hz, List.length_take, Nat.min_eq_left hi]
  have e1 : (i + 1) * sz = i * sz + sz := by rw [Nat.add_mul, Nat.one_mul]
  have e2 : (l.length + 1 - i) * sz = (l.length - i) * sz + sz := by rw [show l.length + 1 - i = (l.length - i) + 1 by omega, Nat.add_mul, Nat.one_mul]
  have e3 : (l.length + 1) * sz = (i + 1) * sz + (l.length - i) * sz := by rw [← Nat.add_mul]; congr 1; omega
  have hput : (put (List.flatMap enc (List.take i l) ++ zs) (i * sz) (enc x)).length = (l.length + 1) * sz := by
    rw [put_len (by rw [List.length_append, ht, hzs, hz]; omega), List.length_append, ht, hzs, e3]; omega
  rw [take_putAll (by rw [hput]; omega) (by rw [hdl, e3])]
  have h2 : (put (List.flatMap enc (List.take i l) ++ zs) (i * sz) (enc x)).take ((i + 1) * sz) = List.flatMap enc (List.take i l) ++ enc x := by
    rw [take_putAll (by rw [List.length_append, ht]; omega) (by rw [hz, e1]), List.take_left' ht]
  rw [h2, List.flatMap_append, List.flatMap_cons, List.append_assoc]
theorem ins_news (hz : ∀ x, (enc x).length = sz) {l : List α} {sp : List Value} {i k2 m : Nat} (hi : i ≤ l.length) (h2 : k2 = l.length - i) (hm : l.length - i ≤ m) :
    (((List.flatMap enc l ++ sp).drop (i * sz)).take (m * sz)).take (k2 * sz) = List.flatMap enc (List.drop i l) := by
  subst h2
  have hfl : (List.flatMap enc l).length = l.length * sz := flat_len hz l
  have hle : i * sz ≤ l.length * sz := Nat.mul_le_mul_right _ hi
  rw [List.take_take, Nat.min_eq_left (Nat.mul_le_mul_right _ hm), List.drop_append_of_le_length (by rw [hfl]; exact hle), flat_drop hz]
  have : (l.length - i) * sz = (List.flatMap enc (List.drop i l)).length := by rw [flat_len hz, List.length_drop]
  rw [this]
  exact List.take_left
theorem ins_room (hz : ∀ x, (enc x).length = sz) {l : List α} {x : α} {sp : List Value} {i N k1 k2 m : Nat} (hi : i ≤ l.length) (hsp : sz ≤ sp.length) (h1 : k1 = 1) (h2 : k2 = l.length - i) (hN : N = l.length + 1) (hm : l.length - i ≤ m) :
    List.take (N * sz) (put (put (List.flatMap enc l ++ sp) ((i + 1) * sz) ((((List.flatMap enc l ++ sp).drop (i * sz)).take (m * sz)).take (k2 * sz))) (i * sz) ((List.flatMap enc [x]).take (k1 * sz))) = List.flatMap enc (List.take i l ++ (x :: List.drop i l)) := by
  subst h1 h2 hN
  have hx : (List.flatMap enc [x]).take (1 * sz) = enc x := by
    simp only [List.flatMap_cons, List.flatMap_nil, List.append_nil, Nat.one_mul]
    rw [← hz x, List.take_length]
  have hfl : (List.flatMap enc l).length = l.length * sz := flat_len hz l
  have hle : i * sz ≤ l.length * sz := Nat.mul_le_mul_right _ hi
  have hnews : (((List.flatMap enc l ++ sp).drop (i * sz)).take (m * sz)).take ((l.length - i) * sz) = List.flatMap enc (List.drop i l) := by
    rw [List.take_take, Nat.min_eq_left (Nat.mul_le_mul_right _ hm), List.drop_append_of_le_length (by rw [hfl]; exact hle), flat_drop hz]
    have : (l.length - i) * sz = (List.flatMap enc (List.drop i l)).length := by rw [flat_len hz, List.length_drop]
    rw [this]
    exact List.take_left
  rw [hx, hnews]
  have hdl : (List.flatMap enc (List.drop i l)).length = (l.length - i) * sz := by rw [flat_len hz, List.length_drop]
  have e1 : (i + 1) * sz = i * sz + sz := by rw [Nat.add_mul, Nat.one_mul]
  have e3 : (l.length + 1) * sz = (i + 1) * sz + (l.length - i) * sz := by rw [← Nat.add_mul]; congr 1; omega
  have e4 : (l.length + 1) * sz = l.length * sz + sz := by rw [Nat.add_mul, Nat.one_mul]
  have hal : (List.flatMap enc l ++ sp).length = l.length * sz + sp.length := by rw [List.length_append, hfl]
  -- the second store lies within the first (i + 1) elements
  have hA : ∀ (a : List Value) (v1 v2 : List Value) (o : Nat), o + v2.length + v1.length ≤ a.length → List.take (o + v2.length + v1.length) (put (put a (o + v2.length) v1) o v2) = a.take o ++ (v2 ++ v1) := by
    intro a v1 v2 o hle
    have hl : (a.take (o + v2.length)).length = o + v2.length := by rw [List.length_take]; omega
    have hdrop : (put a (o + v2.length) v1).drop (o + v2.length) = v1 ++ a.drop (o + v2.length + v1.length) := by
      unfold put
      rw [List.append_assoc]
      exact List.drop_left' hl
    show List.take _ ((put a (o + v2.length) v1).take o ++ v2 ++ (put a (o + v2.length) v1).drop (o + v2.length)) = _
    rw [take_put (by omega) (by omega), hdrop, ← List.append_assoc, List.append_assoc (List.take o a)]
    exact List.take_left' (by simp only [List.length_append, List.length_take]; omega)
  have hq := hA (List.flatMap enc l ++ sp) (List.flatMap enc (List.drop i l)) (enc x) (i * sz) (by rw [hdl, hz, hal]; omega)
  rw [hz, hdl] at hq
  rw [e1, show (l.length + 1) * sz = i * sz + sz + (l.length - i) * sz by omega, hq, take_flatApp hz hi, List.flatMap_append, List.flatMap_cons]
end
theorem rds_none {α : Type} {enc : α → List Value} {sz : Nat} {w : World} {A : Option Addr} {ls : List α} {xs : List Value} (h : Rds w sz A (List.length ls) xs) (hA : Option.isNone A = true) : ls = [] := by
  rcases Nat.eq_zero_or_pos (List.length ls) with e | e
  · exact List.eq_nil_of_length_eq_zero e
  · have := h.isSome e
    rw [this] at hA
    cases hA
theorem shr_nat (n k : Nat) (m : Int) (hm : m = ((2 ^ k : Nat) : Int)) : Int.fdiv (n : Int) m = ((n / 2 ^ k : Nat) : Int) := by
  subst hm
  rw [Int.fdiv_eq_ediv_of_nonneg _ (Int.natCast_nonneg _)]
  rfl
end Go.Proofs.Ytcjjblkgbfaapaa
