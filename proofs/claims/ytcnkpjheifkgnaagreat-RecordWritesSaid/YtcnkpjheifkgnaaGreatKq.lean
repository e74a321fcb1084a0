/-
  Bits; a slice that is made with room; a string's bytes behind a row.
  Conditions: none beyond each law's own.
-/
import Derived.Test.YtcnkpjheifkgnaaGreatKp
namespace Go.Proofs.YtcnkpjheifkgnaaGreat
set_option linter.unusedVariables false
set_option linter.unusedSimpArgs false
open Go.RowKit
section
variable {P:Program} {n:Nat} {F:List (Nat × Value)} {w0 w:World} {D:Nat→Prop} {L:List HP} {op:Op} {ty:TypeId} {v:Value} {K:Value→World→Prop} {x y:Operand} {T t:TypeId} {xs vs ys news:List Value}
def oO (a b:Nat):Nat:=Int.toNat (IntKind.u64.wrap (((BitVec.ofInt 64 (a:Int) ||| BitVec.ofInt 64 (b:Int)).toNat:Nat):Int))
def aU (a b:Nat):Nat:=Int.toNat (IntKind.u64.wrap ((a:Int) *2 ^ (min b 64)))
theorem wo (a b:Nat):oO a b≤18446744073709551615:=by unfold oO; simp only [IntKind.wrap,IntKind.signed,IntKind.bits]; simp; omega
theorem nQ (a b:Nat):aU a b≤18446744073709551615:=by unfold aU; simp only [IntKind.wrap,IntKind.signed,IntKind.bits]; simp; omega
theorem gW (x:Int):Int.toNat (IntKind.u64.wrap x)≤18446744073709551615:=by simp only [IntKind.wrap,IntKind.signed,IntKind.bits]; simp; omega
theorem ol (x:Nat):IntKind.u8.wrap ((x:Nat):Int)=((UInt8.ofNat x).toNat:Int):=by
  simp [IntKind.wrap,IntKind.signed,IntKind.bits]
theorem u8_or (a b:UInt8):IntKind.u8.wrap (((BitVec.ofInt 8 ((a.toNat:Nat):Int) ||| BitVec.ofInt 8 ((b.toNat:Nat):Int)).toNat:Nat):Int)=((a ||| b).toNat:Int):=by
  rw [ol]
  have e:(BitVec.ofInt 8 ((a.toNat:Nat):Int) ||| BitVec.ofInt 8 ((b.toNat:Nat):Int)).toNat=(a ||| b).toNat:=by
    rw [BitVec.ofInt_natCast,BitVec.ofInt_natCast,UInt8.toNat_or,BitVec.toNat_or,BitVec.toNat_ofNat,BitVec.toNat_ofNat,Nat.mod_eq_of_lt a.toNat_lt,Nat.mod_eq_of_lt b.toNat_lt]
  rw [e]; simp
theorem u8_and (a b:UInt8):IntKind.u8.wrap (((BitVec.ofInt 8 ((a.toNat:Nat):Int) &&& BitVec.ofInt 8 ((b.toNat:Nat):Int)).toNat:Nat):Int)=((a &&& b).toNat:Int):=by
  rw [ol]
  have e:(BitVec.ofInt 8 ((a.toNat:Nat):Int) &&& BitVec.ofInt 8 ((b.toNat:Nat):Int)).toNat=(a &&& b).toNat:=by
    rw [BitVec.ofInt_natCast,BitVec.ofInt_natCast,UInt8.toNat_and,BitVec.toNat_and,BitVec.toNat_ofNat,BitVec.toNat_ofNat,Nat.mod_eq_of_lt a.toNat_lt,Nat.mod_eq_of_lt b.toNat_lt]
  rw [e]; simp
theorem Dp {k k':IntKind} {a:Int} {m:Nat} {xo yo:Operand} {t':TypeId} (hx:ev F xo=some (.int k a)) (hy:ev F yo=some (.int k' ((m:Nat):Int))):Yl P n F w (.binOp .shl t xo yo t') ty (.int k (k.wrap (a *2 ^ (min m k.bits)))):=fun ac hag o b _=>by
  unfold execOp
  rw [b]
  have hg:(eqGuard .shl t xo yo (.int k a) (.int k' ((m:Nat):Int))).run P w= .ok () w:=rfl
  simp only [hag.eval hx,hag.eval hy,Sem.run_bind,hg,Result.andThen_ok]
  have hs:(Op.shift .shl k a k' ((m:Nat):Int)).run P w= .ok (.int k (k.wrap (a *2 ^ (min m k.bits)))) w:=by
    unfold Op.shift
    rw [if_neg (by omega)]; rfl
  simp [binOp,hs]
def kz (l n:Nat):Prop:=n *128 ^ l≤18446744073709551615
theorem kz.zero {n:Nat} (h:n≤18446744073709551615):kz 0 n:=by unfold kz; omega
theorem kz.step {l l' n:Nat} (h:kz l n) (hl:l'=l+1):kz l' (n / 128):=by
  subst hl
  unfold kz at *
  rw [Nat.pow_succ,Nat.mul_comm (128 ^ l) 128, ← Nat.mul_assoc]
  exact Nat.le_trans (Nat.mul_le_mul_right _ (Nat.div_mul_le_self n 128)) h
theorem kz.le {l n:Nat} (h:kz l n) (hn:128≤n):l≤8:=by
  unfold kz at h
  rcases Nat.lt_or_ge 8 l with a | a
  · have b:128 ^ 9≤128 ^ l:=Nat.pow_le_pow_right (by decide) a
    have c:128 *128 ^ 9≤n *128 ^ l:=Nat.mul_le_mul hn b
    have d:128 *128 ^ 9=1180591620717411303424:=by decide
    omega
  · exact a
def kU (n l:Nat):Prop:=1≤l∧∀ k,n < 128 ^ k *128→l≤k+1
theorem kU.one {n l:Nat} (h:l=1):kU n l:=⟨by omega,fun k _=>by omega⟩
theorem kU.step {n l l':Nat} (hn: ¬ n < 128) (h:kU (n / 128) l) (hl:l'=l+1):kU n l':=
  ⟨by omega,fun k hk=>by
    cases k with
    | zero=>omega
    | succ k=>
      have a:n / 128 < 128 ^ k *128:=Nat.div_lt_of_lt_mul (by rw [Nat.pow_succ] at hk; omega)
      have:=h.2 k a
      omega⟩
theorem Dn {n l:Nat} (h:kU n l) (hn:n≤18446744073709551615):1≤l∧l≤10:=
  ⟨h.1,h.2 9 (Nat.lt_of_le_of_lt hn (by decide))⟩
theorem El {m e size bytes:Nat} {lx cx:Operand} {kl kc:IntKind} {z:Value} (ht:P.underlying t=some (.slice e)) (hi:(P.info? e).map (fun i=>(i.zero,i.size,i.bytes))=some (some z,size,bytes)) (H:Own w0 D w L) (hl:ev F lx=some (.int kl 0)) (hc:ev F cx=some (.int kc (m:Int)))
    (hb:bytes *m≤281474976710656) (hm:m≤maxLen) (h:∀ A w',Own w0 D w' (row A 0 m [] e size::L)→K (.slice A 0 m) w'):Do P n F w (.makeSlice t lx cx) ty K:=fun a ha o c d next Q hn=>by
  obtain⟨i,b,hz,rfl,rfl⟩:=info_parts hi
  have hm':(m:Int)≤9223372036854775807:=by unfold maxLen at hm; omega
  have hb':(i.bytes:Int) *(m:Int)≤281474976710656:=by
    have h:((i.bytes *m:Nat):Int)≤281474976710656:=by omega
    rwa [Int.natCast_mul] at h
  have hr:=run_make (P:=P) w t e i z ht b hz kl kc 0 m (Int.le_refl _) (by omega) hb' hm'
  simp only [Int.toNat_natCast,Int.toNat_zero] at hr
  unfold execOp
  rw [c]
  simp only [ha.eval hl,ha.eval hc,Sem.run_bind,Sem.run_pure,Result.andThen_ok,hr]
  refine hn _ _ (h _ _ (H.alloc _ ⟨by simp, .inr ⟨w.heap.size,_,(0,0),rfl,by simp; rfl,EM _,hm,size_madeCells _ _,by simp,rf.zero _⟩⟩))
theorem uN {l:List UInt8} {m:Nat} {tx:TypeId} (hk:P.underlying tx=some .string) (hm:m=List.length l):Src P 1 tx (.string ⟨l.toArray⟩) m (List.flatMap eB l) w:=by
  subst hm
  have h:=Src.ofString (P:=P) (w:=w) hk ⟨l.toArray⟩
  have e:byteCells (⟨l.toArray⟩:ByteArray)=List.flatMap eB l:=by rw [vG]; simp [byteCells]
  rw [e] at h
  have a:(⟨l.toArray⟩:ByteArray).size=l.length:=by simp [ByteArray.size]
  rw [a] at h
  exact h
end
end Go.Proofs.YtcnkpjheifkgnaaGreat
