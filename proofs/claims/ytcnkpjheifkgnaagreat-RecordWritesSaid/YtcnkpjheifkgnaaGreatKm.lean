/-
  The library's slices in memory of the call's own: a row with its spare room as one; append, clear, copy within it; strings compared; slices that do not overlap.
  Conditions: none beyond each law's own.
-/
import Derived.Test.YtcnkpjheifkgnaaGreatKl
import Derived.Lib.Bytealg
import Derived.Lib.Overlaps
import Derived.Lib.AppendZerosOnto
namespace Go.Proofs.YtcnkpjheifkgnaaGreat
set_option linter.unusedVariables false
set_option linter.unusedSimpArgs false
open Go.RowKit
section
variable {P:Program} {n:Nat} {F:List (Nat × Value)} {w0 w:World} {D:Nat→Prop} {L:List HP} {op:Op} {ty:TypeId} {v:Value} {K:Value→World→Prop} {x y:Operand} {T t:TypeId} {g o:Nat} {cs cs' xs vs ys news:List Value}
theorem EG {A:Option Addr} {c k m sz:Nat} {u:Value} {tx:TypeId} (H:Own w0 D w (row A c c xs t sz::L)) (hz:0 < sz) (hs:Src P sz tx u m news w) (hroom:k+m≤c):
    ∃ w',(match A with | some a=>storeCells (a.add (k *sz)) news 0 | none=>pure ()).run P w= .ok () w'∧Own w0 D w' (row A c c (put xs (k *sz) news) t sz::L):=by
  have hle:=H.rowLe (i:=0) rfl
  rcases Nat.eq_zero_or_pos m with b | b
  · have hn:news= []:=List.eq_nil_of_length_eq_zero (by rw [hs.newsLen,b,Nat.zero_mul])
    subst hn
    have hp:put xs (k *sz) []=xs:=by simp [put]
    rw [hp]
    refine⟨w, ?_,H⟩
    cases A <;> rfl
  · have hc:0 < c:=by omega
    have hA:=(H.rds (i:=0) rfl).isSome hc
    have hl:news.length=m *sz:=hs.newsLen
    obtain⟨w',d,f⟩:=H.storeRow (P:=P) (vs:=news) (o:=k *sz) (by rw [List.all_eq_true]; exact fun u hu=>hs.one u hu) (by rw [hl]; exact Nat.mul_pos b hz) (by rw [hl,hle.2.2, ← Nat.add_mul]; exact Nat.mul_le_mul_right _ hroom) rfl
    refine⟨w', ?_,f⟩
    rw [hA]
    simp only [add0]
    exact d
theorem EH {A Ad:Option Addr} {lo nd cd c e size bytes:Nat} {f:Value} (b:(P.info? e).map (·.zero)=some (some f)) (k:f.cells.toList.all Value.oneCell'=true) (el:Elem P t e size bytes) (H:Own w0 D w (row A c c xs e size::L)) (hx:ev F x=some (.slice Ad nd cd)) (hA:0 < nd→Ad=some ⟨ab A,ao A+lo *size,none⟩) (hfit:lo+nd≤c)
    (h:∀ w' zs,zs.length=nd *size→Own w0 D w' (row A c c (put xs (lo *size) zs) e size::L)→K (.tuple #[]) w'):
    Do P n F w (.call ⟨.builtin .clear, [x].toArray, [t].toArray⟩) ty K:=fun a ha o l s next Q hn=>by
  obtain⟨i,z,ht,hi,hz,rfl,rfl,hzs,hsz⟩:=el
  have hle:=H.rowLe (i:=0) rfl
  have key:∃ w' zs,zs.length=nd *i.size∧(Builtin.clear_ #[t] o.type #[.slice Ad nd cd]).run P w= .ok (.tuple #[]) w'∧Own w0 D w' (row A c c (put xs (lo *i.size) zs) e i.size::L):=by
    rcases Nat.eq_zero_or_pos nd with d | d
    · subst d
      refine⟨w, [],by simp, ?_,by simpa [put] using H⟩
      cases Ad <;> simp [Builtin.clear_,run_underlying ht]
    · have hAd:=hA d
      subst hAd
      have hzl:(Builtin.zeroCells z.cells nd).toList.length=nd *i.size:=by rw [Array.length_toList,ql,hzs]
      have hone:(Builtin.zeroCells z.cells nd).toList.all Value.oneCell'=true:=by
        have hzz:z=f:=by
          rw [hi] at b
          simp only [Option.map_some,hz,Option.some.injEq] at b
          exact b
        subst hzz
        rw [List.all_eq_true]
        intro u hu
        simp only [Builtin.zeroCells] at hu
        simp at hu
        obtain⟨q,hq,rfl⟩:=hu
        have hlt:q % z.cells.size < z.cells.size:=Nat.mod_lt _ (by omega)
        rw [getElem!_pos z.cells _ hlt]
        exact(List.all_eq_true.1 k) _ (by simp)
      obtain⟨w',p,r⟩:=H.storeRow (P:=P) (vs:=(Builtin.zeroCells z.cells nd).toList) (o:=lo *i.size) hone (by rw [hzl]; exact Nat.mul_pos d hsz) (by rw [hzl,hle.2.2, ← Nat.add_mul]; exact Nat.mul_le_mul_right _ hfit) rfl
      refine⟨w',_,hzl, ?_,r⟩
      obtain⟨j,hj⟩:∃ j,nd=j+1:=⟨nd - 1,by omega⟩
      subst hj
      simp [Builtin.clear_,run_underlying ht,zeroValue,typeInfo,hi,hz,p]
  obtain⟨w',zs,hzl,hrun,H'⟩:=key
  unfold execOp
  rw [l]
  simp only [resolve,invoke,builtin,Sem.run_bind,Sem.run_pure,Result.andThen_ok,List.map_toArray,List.map_cons,List.map_nil,ha.eval hx,hrun]
  exact hn _ _ (h w' zs hzl H')
end
section
variable {P:Program} {n:Nat} {F:List (Nat × Value)} {w:World} {ty T e sz bytes m c:Nat} {A:Option Addr} {x:Operand}
end
section
variable {α:Type} {enc:α→List Value} {sz:Nat}
end
theorem yn (n k:Nat) (m:Int) (hm:m=((2 ^ k:Nat):Int)):Int.fdiv (n:Int) m=((n / 2 ^ k:Nat):Int):=by
  subst hm
  rw [Int.fdiv_eq_ediv_of_nonneg _ (Int.natCast_nonneg _)]
  rfl
end Go.Proofs.YtcnkpjheifkgnaaGreat
