/-
  Contract of octet.Sum.
-/
import Derived.Test.YtccjclalngabhaaGreatOctE
namespace Go.Proofs.YtccjclalngabhaaGreat.Z
set_option maxRecDepth 100000
open Go.RowKit
theorem half (r:Nat) (h:r < 2 ^ 32):∃ q:Nat,q < 16∧bits .and .u32 (r:Int) 15=(q:Int)∧bits .xor .u32 ((r:Int) / 16) ((iB 4 q:Nat):Int)=((iB 4 r:Nat):Int):=by
  refine⟨r % 16,Nat.mod_lt _ (by decide), ?_, ?_⟩
  · have:=u32_and_nat r 15 h (by decide)
    rw [nat_mask4] at this
    exact this
  · have a:iB 4 (r % 16) < 2 ^ 32:=oP 4 (by omega)
    have:=u32_xor_nat (r / 16) (iB 4 (r % 16)) (by omega) a
    rw [← yD] at this
    simpa using this
theorem wB (r:Nat) (x:UInt8) (h:r < 2 ^ 32):bits .xor .u32 (r:Int) (x.toNat:Int)=((r ^^^ x.toNat:Nat):Int):=
  u32_xor_nat r x.toNat h (Nat.lt_trans x.toNat_lt (by decide))
theorem xR (r:Nat):iB 4 (iB 4 r)=iB 8 r:=by rw [← tq]
set_option maxHeartbeats 1000000 in
theorem Sum_any (cap n:Nat) (A:Option Addr) (xs:List UInt8) (w:World) (hl:n≤maxLen) (hx:Byt w w.heap.size A n xs):
    Calls Tryz.prog 53 #[.slice A n cap] w fun e w'=>e= .returned (.int .u32 (sum32 xs:Nat))∧Below w.heap.size w w':=by
  have hn:=hx.len
  have K:=Lib.hid (rT w)
  have HN:=Lib.hid hn; clear hn
  have HX:=Lib.hid hx; clear hx
  unfold maxLen at hl
  go_enter Tryz.func53,Tryz.ntmps53
  go_wp2_with fail
  refine K.out.mono ?_
  rintro e q ⟨rfl,hb⟩
  go_wp2_with (first | (refine wpList_store_row rfl _ _ _ rfl _ _ rfl rfl _ _ (heap_alloc_new _ _) (by kernel_rfl) (by kernel_rfl) (rR 16) ?_))
  generalize hW:World.setRow _ _ _=c
  have hC:Hid (c.heap[q.heap.size]? =some (.cells (kv 16) 139 (0,0))):=by show _=_; rw [← hW]; exact setRow_heap _ _ _ _ _ _ (heap_alloc_new _ _)
  have hB:Below w.heap.size w c:=by rw [← hW]; exact below_setRow (hb.alloc hb.size _) hb.size _
  have k:Hid (Byt c w.heap.size A n xs):=HX.out.below hB
  generalize q.heap.size=g at hC ⊢
  clear hW HX hb K
  go_loop [4,10] (fun v i=> ∃ r j:Nat,j≤n∧i= .int .i64 j∧v= .int .u32 r∧Hid (r=crc 4294967295 (xs.take j))) (fun _ i=>n - (intOf i).toNat)
  case atStart=>exact⟨4294967295,0,by omega,rfl,rfl,rfl⟩
  case round=>
    obtain⟨r,j,hj,rfl,rfl,hr⟩:=hrel
    have a:r < 2 ^ 32:=by rw [hr.out]; exact qo _ (by decide)
    by_cases hlt:j < n
    · obtain⟨b,off,x,rfl,_,hxj,hc⟩:=k.out.at_ hlt
      have HJ:=Lib.hid hxj; clear hxj
      have s:=wB r x a
      have hq:r ^^^ x.toNat < 2 ^ 32:=Nat.xor_lt_two_pow a (Nat.lt_trans x.toNat_lt (by decide))
      obtain⟨l,d,t,m⟩:=half _ hq
      obtain⟨o,f,u,p⟩:=half _ (oP 4 hq)
      have y:c.cell? ⟨g,l,none⟩=some (.int .u32 ((iB 4 l:Nat):Int)):=by rw [qd hC.out,mW _ _ d,if_pos d]
      have z:c.cell? ⟨g,o,none⟩=some (.int .u32 ((iB 4 o:Nat):Int)):=by rw [qd hC.out,mW _ _ f,if_pos f]
      have B:(x.toNat:Int) < 256:=by have:=x.toNat_lt; omega
      have hfin:Hid (iB 4 (iB 4 (r ^^^ x.toNat))=crc 4294967295 (xs.take (j+1))):=by show _=_; rw [xR,rQ HJ.out, ← hr.out]
      generalize hs:iB 4 (iB 4 (r ^^^ x.toNat))=C at p hfin
      clear hs
      generalize iB 4 (r ^^^ x.toNat)=D at m u p
      generalize r ^^^ x.toNat=E at s hq t m
      generalize iB 4 l=s1 at y m
      generalize iB 4 o=s2 at z p
      clear a hq
      go_wp2
      go_round
      case rel=>exact⟨C,j+1,by omega,by go_num,rfl,hfin⟩
      case measure=>simp [intOf]; omega
    · go_wp2
      go_ret
      refine⟨vH ?_,hB⟩
      have hm:IntKind.max IntKind.u32=((4294967295:Nat):Int):=by decide
      have e:xs.take j=xs:=List.take_of_length_le (by rw [HN.out]; omega)
      have h:=hr.out
      rw [e] at h
      rw [hm,u32_xor_nat 4294967295 r (by decide) a,Nat.xor_comm,h]
      rfl
end Go.Proofs.YtccjclalngabhaaGreat.Z
