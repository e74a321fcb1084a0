/-
  The mathematics of the sum of 32 bits: one step, n steps, bytes as one great number; a difference within 32 bits never falls to nought.
  Conditions: none.
-/
import Derived.Lib.Hide
namespace Go.Proofs.YtccjclalngabhaaGreat.Z
theorem xQ (a b c:Nat):a ^^^ (b ^^^ c)=b ^^^ (a ^^^ c):=by rw [← Nat.xor_assoc,Nat.xor_comm a b,Nat.xor_assoc]
def st (r:Nat):Nat:=if r % 2=1 then(r / 2) ^^^ 3988292384 else r / 2
theorem uT (a b:Nat):(a ^^^ b) % 2=(a % 2) ^^^ (b % 2):=by
  have:=Nat.xor_mod_two_pow (a:=a) (b:=b) (n:=1)
  simpa using this
theorem wy (a b:Nat):st (a ^^^ b)=st a ^^^ st b:=by
  unfold st
  rw [uT,Nat.xor_div_two]
  rcases Nat.mod_two_eq_zero_or_one a with ha | ha <;> rcases Nat.mod_two_eq_zero_or_one b with hb | hb <;> simp only [ha,hb]
  · simp
  · simp [Nat.xor_assoc]
  · simp only [Nat.xor_zero,if_true,Nat.zero_ne_one,if_false]
    rw [Nat.xor_assoc,Nat.xor_comm (b / 2), ← Nat.xor_assoc]
  · simp only [Nat.xor_self,Nat.zero_ne_one,if_false,if_true]
    rw [Nat.xor_assoc (a / 2),xQ 3988292384,Nat.xor_self,Nat.xor_zero]
theorem uU (a:Nat):st (2 *a)=a:=by unfold st; rw [if_neg (by omega)]; omega
theorem xh {r:Nat} (h:r < 2 ^ 32):st r < 2 ^ 32:=by
  unfold st
  split
  · exact Nat.xor_lt_two_pow (by omega) (by decide)
  · omega
def iB:Nat→Nat→Nat
  | 0,r=>r
  | n+1,r=>iB n (st r)
theorem vR (n:Nat):∀ a b,iB n (a ^^^ b)=iB n a ^^^ iB n b:=by
  induction n with
  | zero=>intro a b; rfl
  | succ n ih=>intro a b; rw [iB,wy,ih]; rfl
theorem tq (m:Nat):∀ n r,iB (m+n) r=iB n (iB m r):=by
  induction m with
  | zero=>intro n r; rw [Nat.zero_add]; rfl
  | succ m ih=>intro n r; rw [Nat.succ_add,iB,ih]; rfl
theorem vS (n:Nat):∀ a,iB n (2 ^ n *a)=a:=by
  induction n with
  | zero=>intro a; simp [iB]
  | succ n ih=>intro a; rw [iB,Nat.pow_succ,Nat.mul_comm (2 ^ n) 2,Nat.mul_assoc,uU,ih]
theorem oP (n:Nat):∀ {r},r < 2 ^ 32→iB n r < 2 ^ 32:=by
  induction n with
  | zero=>intro r h; exact h
  | succ n ih=>intro r h; exact ih (xh h)
theorem yD (r:Nat):iB 4 r=(r / 16) ^^^ iB 4 (r % 16):=by
  have e:r=(2 ^ 4 *(r / 16)) ^^^ (r % 16):=by
    apply Nat.eq_of_testBit_eq
    intro i
    have a:=Nat.testBit_mod_two_pow r 4 i
    have b:=Nat.testBit_mul_two_pow (r / 2 ^ 4) i 4
    rw [Nat.testBit_xor,Nat.mul_comm,show (16:Nat)=2 ^ 4 from rfl,a,b,Nat.testBit_div_two_pow]
    by_cases h:i < 4
    · simp [h,Nat.not_le.2 h]
    · simp [h,Nat.not_lt.1 h]
  calc iB 4 r=iB 4 ((2 ^ 4 *(r / 16)) ^^^ (r % 16)):=by rw [← e]
    _=_:=by rw [vR,vS]
def crc (r:Nat) (xs:List UInt8):Nat:=xs.foldl (fun r x=>iB 8 (r ^^^ x.toNat)) r
theorem qJ (r:Nat):crc r []=r:=rfl
theorem om (r:Nat) (x:UInt8) (xs:List UInt8):crc r (x::xs)=crc (iB 8 (r ^^^ x.toNat)) xs:=by unfold crc; rw [List.foldl_cons]
theorem uV (xs:List UInt8) (x:UInt8):∀ r,crc r (xs++ [x])=iB 8 (crc r xs ^^^ x.toNat):=by
  induction xs with
  | nil=>intro r; rw [List.nil_append,om,qJ,qJ]
  | cons y ys ih=>intro r; rw [List.cons_append,om,ih,om]
theorem qo:∀ (xs:List UInt8) {r:Nat},r < 2 ^ 32→crc r xs < 2 ^ 32
  | [],_,h=>by rw [qJ]; exact h
  | x::xs,_,h=>by rw [om]; exact qo xs (oP 8 (Nat.xor_lt_two_pow h (Nat.lt_trans x.toNat_lt (by decide))))
theorem rQ {xs:List UInt8} {j:Nat} {x:UInt8} (h:xs[j]? =some x) (r:Nat):crc r (xs.take (j+1))=iB 8 (crc r (xs.take j) ^^^ x.toNat):=by
  obtain⟨hj,rfl⟩:=List.getElem?_eq_some_iff.1 h
  rw [List.take_succ_eq_append_getElem hj,uV]
def sum32 (xs:List UInt8):Nat:=crc 4294967295 xs ^^^ 4294967295
theorem sum_lt (xs:List UInt8):sum32 xs < 4294967296:=Nat.xor_lt_two_pow (n:=32) (qo xs (by decide)) (by decide)
end Go.Proofs.YtccjclalngabhaaGreat.Z
