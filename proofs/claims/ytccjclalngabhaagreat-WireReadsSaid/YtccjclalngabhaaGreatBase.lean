/-
  Slices of bytes that read as a list, in this seat's program.
  Conditions: none.
-/
import Derived.Test.YtccjclalngabhaaGreatMem
namespace Go.Proofs.YtccjclalngabhaaGreat.Z
open Go.RowKit
def bv (x:UInt8):Value:= .int .u8 (x.toNat:Int)
def Byt (w:World) (B:Nat) (A:Option Addr) (n:Nat) (xs:List UInt8):Prop:=Rd w B 1 A n (xs.map bv)
section
variable {w w':World} {B B' n:Nat} {A:Option Addr} {xs:List UInt8}
theorem Byt.len (h:Byt w B A n xs):xs.length=n:=by simpa using h.1
theorem Byt.below (h:Byt w B A n xs) (hb:Below B w w'):Byt w' B A n xs:=Rd.below h hb
theorem Br (h:Byt w B A n xs) (hB:B≤B'):Byt w B' A n xs:=A7 h hB
theorem Byt.alloc (h:Byt w B A n xs) (hB:B≤w.heap.size) (o:Obj):Byt (w.alloc o) B A n xs:=Rd.alloc h hB o
theorem Byt.at_ (h:Byt w B A n xs) {k:Nat} (hk:k < n):∃ (b off:Nat) (x:UInt8),A=some ⟨b,off,none⟩∧b < B∧xs[k]? =some x∧w.cell? ⟨b,off+k,none⟩=some (.int .u8 (x.toNat:Int)):=by
  obtain⟨b,off,e,hb,hc⟩:=h.2 (by omega)
  have hl:=h.len
  have:=hc k (by simp; omega)
  exact⟨b,off,xs[k]'(by omega),e,hb,List.getElem?_eq_getElem (by omega),by simpa [bv] using this⟩
end
theorem Byt.take {w:World} {B n:Nat} {A:Option Addr} {xs:List UInt8} (h:Byt w B A n xs) {m:Nat} (hm:m≤n):Byt w B A m (xs.take m):=by
  have:=Rd.take h hm
  rw [Nat.mul_one, ← List.map_take] at this
  exact this
theorem vH {k:IntKind} {a b:Int} (h:a=b):Ending.returned (.int k a)= .returned (.int k b):=by rw [h]
end Go.Proofs.YtccjclalngabhaaGreat.Z
