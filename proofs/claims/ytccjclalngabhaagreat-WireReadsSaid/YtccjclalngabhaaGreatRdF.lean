/-
  Contracts of the reference's Sum, Fixed, ReadFixed, and of octet.ReadFixed.
-/
import Derived.Test.YtccjclalngabhaaGreatOctF
import Derived.Test.YtccjclalngabhaaGreatBase
import Derived.Lib.SlBytesConst
import Derived.Deep.QuietTactic
import Derived.BigQuiet
namespace Go.Proofs.YtccjclalngabhaaGreat.Z
set_option maxRecDepth 100000
open Go.RowKit
theorem rJ {p:Prop} (h:p):Hid p:=h
set_option maxHeartbeats 1000000 in
theorem rSum_any (cap n:Nat) (A:Option Addr) (xs:List UInt8) (w:World) (hl:n≤maxLen) (hx:Byt w w.heap.size A n xs):
    Calls Tryz.prog 65 #[.slice A n cap] w fun e w'=>e= .returned (.int .u32 (sum32 xs:Nat))∧w=w':=by
  have hn:=hx.len
  have HN:=Lib.hid hn; clear hn
  have HX:=Lib.hid hx; clear hx
  unfold maxLen at hl
  go_enter Tryz.func65,Tryz.ntmps65
  go_wp2
  go_loop [3,9] (fun v i=> ∃ r j:Nat,j≤n∧i= .int .i64 j∧v= .int .u32 r∧Hid (r=crc 4294967295 (xs.take j))) (fun _ i=>n - (intOf i).toNat)
  case atStart=>exact⟨4294967295,0,by omega,rfl,rfl,rfl⟩
  case round=>
    obtain⟨r,j,hj,rfl,rfl,hr⟩:=hrel
    have a:r < 2 ^ 32:=by rw [hr.out]; exact qo _ (by decide)
    by_cases hlt:j < n
    · obtain⟨b,off,x,rfl,_,hxj,hc⟩:=HX.out.at_ hlt
      have HJ:=Lib.hid hxj; clear hxj
      have g:=wB r x a
      have hq:r ^^^ x.toNat < 2 ^ 32:=Nat.xor_lt_two_pow a (Nat.lt_trans x.toNat_lt (by decide))
      have h:(x.toNat:Int) < 256:=by have:=x.toNat_lt; omega
      have hfin:Hid (iB 8 (r ^^^ x.toNat)=crc 4294967295 (xs.take (j+1))):=by show _=_; rw [rQ HJ.out, ← hr.out]
      generalize r ^^^ x.toNat=f at g hq hfin
      have HQ:=rJ hq
      clear a hq
      go_wp2
      go_loop [3,6] (fun v i=> ∃ s m:Nat,m≤8∧i= .int .i64 m∧v= .int .u32 s∧Hid (s=iB m f)) (fun _ i=>8 - (intOf i).toNat)
      case atStart=>exact⟨f,0,by omega,rfl,rfl,rfl⟩
      case round=>
        obtain⟨s,m,hm,rfl,rfl,hs⟩:=hrel
        have c:s < 2 ^ 32:=by rw [hs.out]; exact oP m HQ.out
        by_cases hlm:m < 8
        · have l:=wz s c
          have HS:=rJ c
          clear c
          rcases Nat.mod_two_eq_zero_or_one s with hp | hp
          · have k:((s:Int) % 2==1)=false:=by simp; omega
            have HP:=rJ hp
            clear hp
            go_wp2
            go_round
            case rel=>exact⟨s / 2,m+1,by omega,by go_num,by go_num,by show _=_; rw [oo, ← hs.out]; unfold st; rw [if_neg (by have:=HP.out; omega)]⟩
            case measure=>simp [intOf]; omega
          · have k:((s:Int) % 2==1)=true:=by simp; omega
            have HP:=rJ hp
            clear hp
            go_wp2
            go_round
            case rel=>exact⟨s / 2 ^^^ 3988292384,m+1,by omega,by go_num,rfl,by show _=_; rw [oo, ← hs.out]; unfold st; rw [if_pos HP.out]⟩
            case measure=>simp [intOf]; omega
        · clear c
          go_wp2
          go_round
          case rel=>
            have e:s=iB 8 f:=by rw [hs.out]; congr 1; omega
            exact⟨s,j+1,by omega,by go_num,rfl,by show _=_; rw [e,hfin.out]⟩
          case measure=>simp [intOf]; omega
    · go_wp2
      go_ret
      refine⟨vH ?_,rfl⟩
      have e:xs.take j=xs:=List.take_of_length_le (by rw [HN.out]; omega)
      have d:=hr.out
      rw [e] at d
      have:=u32_xor_nat r 4294967295 a (by decide)
      rw [d] at this ⊢
      exact this
end Go.Proofs.YtccjclalngabhaaGreat.Z
