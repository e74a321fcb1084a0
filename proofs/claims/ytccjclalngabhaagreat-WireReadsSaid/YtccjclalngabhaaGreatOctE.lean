/-
  Contracts of octet.sumSteps, octet.Sum.
-/
import Derived.Test.YtccjclalngabhaaGreatBase
import Derived.Test.YtccjclalngabhaaGreatCrc
namespace Go.Proofs.YtccjclalngabhaaGreat.Z
set_option maxRecDepth 100000
open Go.RowKit
def kv (k:Nat):Array Value:=(Array.range 16).map fun i=> .int .u32 (if i < k then(iB 4 i:Nat) else 0:Int)
theorem nC (k:Nat):(kv k).size=16:=by simp [kv]
theorem mW (k j:Nat) (h:j < 16):(kv k)[j]? =some (.int .u32 (if j < k then(iB 4 j:Nat) else 0:Int)):=by
  rw [Array.getElem?_eq_getElem (by rw [nC]; exact h)]
  simp [kv]
theorem uW (k:Nat) (h:k < 16):(kv k).setIfInBounds k (.int .u32 ((iB 4 k:Nat):Int))=kv (k+1):=by
  apply Array.ext_getElem?
  intro j
  rw [Array.getElem?_setIfInBounds,nC]
  by_cases hj:j < 16
  · rw [mW (k+1) j hj]
    by_cases e:k=j
    · subst e; simp [h]
    · rw [if_neg e,mW k j hj]
      by_cases hlt:j < k
      · rw [if_pos hlt,if_pos (by omega)]
      · rw [if_neg hlt,if_neg (by omega)]
  · have a:(kv k)[j]? =none:=Array.getElem?_eq_none (by rw [nC]; omega)
    have b:(kv (k+1))[j]? =none:=Array.getElem?_eq_none (by rw [nC]; omega)
    rw [a,b]
    split
    · omega
    · rfl
theorem rR (k:Nat):(kv k).all (·.oneCell')=true:=by
  rw [Array.all_eq_true_iff_forall_mem]
  intro x hx
  simp only [kv,Array.mem_map] at hx
  obtain⟨i,_,rfl⟩:=hx
  rfl
theorem below_setRow {B g:Nat} {a w:World} (h:Below B a w) (hg:B≤g) (cs:Array Value):Below B a (w.setRow g cs):=
  h.trans ⟨rfl,rfl,rfl,by simp,fun k hk=>setRow_other w g k _ (by omega)⟩
theorem qd {w:World} {g t:Nat} {cs:Array Value} (h:w.heap[g]? =some (.cells cs t (0,0))) (i:Nat):w.cell? ⟨g,i,none⟩=cs[i]? :=cell_of_row w g i cs t (0,0) h
theorem tV {w:World} {g t:Nat} {cs:Array Value} (h:w.heap[g]? =some (.cells cs t (0,0))) (i:Nat):w.frozen? ⟨g,i,none⟩=false:=by simp [World.frozen?,h]
theorem vT {w:World} {g t:Nat} {cs:Array Value} (h:w.heap[g]? =some (.cells cs t (0,0))) (i:Nat) (u:Value):(w.setCell ⟨g,i,none⟩ u).heap[g]? =some (.cells (cs.setIfInBounds i u) t (0,0)):=by
  simp [World.setCell,Array.getElem?_modify,h]
theorem vU {w:World} {g t:Nat} {cs:Array Value} (h:w.heap[g]? =some (.cells cs t (0,0))) {p:Addr} (hp:g≠p.block) (u:Value):(w.setCell p u).heap[g]? =some (.cells cs t (0,0)):=(Below.heap_setCell w p u g hp).trans h
theorem uo {w:World} {g t:Nat} {cs:Array Value} (h:w.heap[g]? =some (.cells cs t (0,0))) (o:Obj):(w.alloc o).heap[g]? =some (.cells cs t (0,0)):=
  (Below.heap_alloc w o g (Array.getElem?_eq_some_iff.1 h).1).trans h
theorem and1 (r:Nat) (h:r < 2 ^ 32):bits .and .u32 (r:Int) 1=((r % 2:Nat):Int):=by
  have:=u32_and_nat r 1 h (by decide)
  rw [nat_mask1] at this
  exact this
theorem wz (r:Nat) (h:r < 2 ^ 32):bits .xor .u32 ((r:Int) / 2) 3988292384=(((r / 2) ^^^ 3988292384:Nat):Int):=by
  have:=u32_xor_nat (r / 2) 3988292384 (by omega) (by decide)
  simpa using this
theorem oo (m k:Nat):iB (m+1) k=st (iB m k):=by rw [tq]; rfl
set_option maxHeartbeats 1000000 in
theorem rT (w:World):
    Calls Tryz.prog 98 #[] w fun e w'=>e= .returned (.agg (kv 16))∧Below w.heap.size w w':=by
  have hz:∀ x:Int,x=0→(#[Value.int IntKind.u32 x,Value.int IntKind.u32 x,Value.int IntKind.u32 x,Value.int IntKind.u32 x,
          Value.int IntKind.u32 x,Value.int IntKind.u32 x,Value.int IntKind.u32 x,Value.int IntKind.u32 x,
          Value.int IntKind.u32 x,Value.int IntKind.u32 x,Value.int IntKind.u32 x,Value.int IntKind.u32 x,
          Value.int IntKind.u32 x,Value.int IntKind.u32 x,Value.int IntKind.u32 x,Value.int IntKind.u32 x]:Array Value)=kv 0:=by rintro x rfl; kernel_rfl
  have HZ:=Lib.hid (hz 0 rfl); clear hz
  go_enter Tryz.func98,Tryz.ntmps98
  go_wp2
  go_loopw [5] (fun i wr=> ∃ k:Nat,k≤16∧i= .int .i64 k∧Hid (wr.heap[w.heap.size+1]? =some (.cells (kv k) 139 (0,0)))∧Hid (wr.heap[w.heap.size]? =some (.cells (kv 0) 139 (0,0)))∧Below w.heap.size w wr) (fun i _=>16 - (intOf i).toNat)
  case atStart=>
    rw [HZ.out]
    refine⟨0,by omega,rfl, ?_, ?_,((Below.refl _ _).alloc (Nat.le_refl _) _).alloc (by simp) _⟩
    · show _=_
      have:=heap_alloc_new (w.alloc (.cells (kv 0) 139)) (.cells (kv 0) 139)
      simpa using this
    · show _=_
      exact uo (heap_alloc_new w (.cells (kv 0) 139)) _
  case round=>
    obtain⟨k,hk,rfl,b,c,hbel⟩:=hrel
    by_cases hlt:k < 16
    · go_wp2
      go_loop [3,10] (fun r j=> ∃ n m:Nat,m≤4∧j= .int .i64 m∧r= .int .u32 n∧Hid (n=iB m k)) (fun _ j=>4 - (intOf j).toNat)
      case atStart=>
        exact⟨k,0,by omega,rfl,rfl,rfl⟩
      case round=>
        obtain⟨n,m,hm,rfl,rfl,hn⟩:=hrel
        have a:n < 2 ^ 32:=by rw [hn.out]; exact oP m (by omega)
        by_cases hlm:m < 4
        · have f:=and1 n a
          have h:=wz n a
          rcases Nat.mod_two_eq_zero_or_one n with hp | hp
          · rw [hp] at f
            have HP:=Lib.hid hp; clear hp a
            go_wp2
            go_round
            case rel=>exact⟨n / 2,m+1,by omega,by go_num,by go_num,by show _=_; rw [oo, ← hn.out]; unfold st; rw [if_neg (by have:=HP.out; omega)]⟩
            case measure=>simp [intOf]; omega
          · rw [hp] at f
            have HP:=Lib.hid hp; clear hp a
            go_wp2
            go_round
            case rel=>exact⟨n / 2 ^^^ 3988292384,m+1,by omega,by go_num,rfl,by show _=_; rw [oo, ← hn.out]; unfold st; rw [if_pos HP.out]⟩
            case measure=>simp [intOf]; omega
        · clear a
          have hc:wr.cell? ⟨w.heap.size+1,k,none⟩=some (.int .u32 0):=by rw [qd b.out,mW k k hlt,if_neg (by omega)]
          have hf:wr.frozen? ⟨w.heap.size+1,k,none⟩=false:=tV b.out k
          go_wp2
          go_roundw
          case rel=>
            have g:m=4:=by omega
            have e:n=iB 4 k:=by rw [hn.out,g]
            subst e
            refine⟨k+1,by omega,by go_num, ?_, ?_,hbel.setCell (by show w.heap.size≤w.heap.size+1; omega) _⟩
            · show _=_
              rw [← uW k hlt]
              exact vT b.out k _
            · exact vU c.out (by show w.heap.size≠w.heap.size+1; omega) _
          case measure=>simp [intOf]; omega
    · have d:k=16:=by omega
      subst d
      go_wp2_with (first | (refine wpList_load_row rfl _ _ rfl _ rfl _ _ _ _ b.out Tryz.underlying139 rfl (by kernel_rfl) ?_) | (refine wpList_store_row rfl _ _ _ rfl _ _ rfl rfl _ _ c.out (by kernel_rfl) (by kernel_rfl) (rR 16) ?_))
      refine bodyPost_ret (v:= .agg (kv 16)) ?_ rfl ⟨rfl,below_setRow hbel (Nat.le_refl _) _⟩
      exact results_cell_row rfl _ _ _ _ _ _ _ rfl (setRow_heap _ _ _ _ _ _ c.out) Tryz.underlying139 rfl (by kernel_rfl)
end Go.Proofs.YtccjclalngabhaaGreat.Z
