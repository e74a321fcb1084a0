/-
  Words and laws for memory, over any program: a slice that reads as a list of cells; what an append onto a row of the call's own does, whatever is appended.
  Conditions: none beyond each law's own.
-/
import Derived.Test.YtccjclalngabhaaGreatRows
import Derived.WalkKit
import Derived.WalkLawsBesides
import Derived.WalkSpells
import Derived.Lib.Hide
import Derived.Lib.AppendStr
import Derived.Deep.AppendSrc
import Derived.Deep.Draws
namespace Go.Proofs.YtccjclalngabhaaGreat
abbrev BH:=@Nat.le_of_ble_eq_true
abbrev BI:=@IntWalk.i64_in
abbrev BJ:=@Nat.zero_le
abbrev BK:=@not_not_intro
abbrev BL:=@Bool.eq_false_or_eq_true
end Go.Proofs.YtccjclalngabhaaGreat
namespace Go.Proofs.YtccjclalngabhaaGreat.Z
open Go.RowKit
def Rd (w:World) (B size:Nat) (A:Option Addr) (n:Nat) (xs:List Value):Prop:=
  xs.length=n *size∧(0 < n→∃ b off,A=some ⟨b,off,none⟩∧b < B∧∀ j (h:j < xs.length),w.cell? ⟨b,off+j,none⟩=some xs[j])
section
variable {w w':World} {B B' size n:Nat} {A:Option Addr} {xs:List Value}
theorem Rd.keep (h:Rd w B size A n xs) (hk:∀ p:Addr,p.block < B→w'.cell? p=w.cell? p):Rd w' B size A n xs:=
  ⟨h.1,fun hn=>let ⟨b,off,e,hb,hc⟩:=h.2 hn; ⟨b,off,e,hb,fun j hj=>(hk _ hb).trans (hc j hj)⟩⟩
theorem A7 (h:Rd w B size A n xs) (hB:B≤B'):Rd w B' size A n xs:=
  ⟨h.1,fun hn=>let ⟨b,off,e,hb,hc⟩:=h.2 hn; ⟨b,off,e,Nat.lt_of_lt_of_le hb hB,hc⟩⟩
theorem Rd.below (h:Rd w B size A n xs) (hb:Below B w w'):Rd w' B size A n xs:=h.keep fun _ hp=>hb.cell hp
theorem Rd.drew (h:Rd w B size A n xs):Rd w.drew B size A n xs:=h
theorem Rd.alloc (h:Rd w B size A n xs) (hB:B≤w.heap.size) (o:Obj):Rd (w.alloc o) B size A n xs:=h.keep fun p hp=>World.cell?_alloc_lt w o p (by omega)
theorem Rd.nil (w:World) (B size:Nat) (A:Option Addr):Rd w B size A 0 []:=⟨by simp,fun h=>absurd h (Nat.lt_irrefl 0)⟩
end
def Elem (P:Program) (t e size bytes:Nat):Prop:=
  ∃ i z,P.underlying t=some (.slice e)∧P.info? e=some i∧i.zero=some z∧i.size=size∧i.bytes=bytes∧z.cells.size=size∧0 < size
theorem kT {P:Program} {t e size bytes:Nat} {z:Value} (ht:P.underlying t=some (.slice e)) (h:(P.info? e).map (fun i=>(i.zero,i.size,i.bytes))=some (some z,size,bytes)) (hz:z.cells.size=size) (hs:0 < size):Elem P t e size bytes:=by
  obtain⟨i,hi,a,b,c⟩:=info_parts h
  exact⟨i,z,ht,hi,a,b,c,hz,hs⟩
section
variable {P:Program} {w:World}
theorem mV {z:Array Value} {n:Nat}:(Builtin.zeroCells z n).size=n *z.size:=by simp [Builtin.zeroCells]
end
theorem Rd.take {w:World} {B size n:Nat} {A:Option Addr} {xs:List Value} (h:Rd w B size A n xs) {m:Nat} (hm:m≤n):Rd w B size A m (xs.take (m *size)):=by
  have e:m *size≤n *size:=Nat.mul_le_mul_right _ hm
  have hl:=h.1
  refine⟨by simp only [List.length_take]; omega,fun hp=> ?_⟩
  obtain⟨b,off,ea,hb,hc⟩:=h.2 (by omega)
  refine⟨b,off,ea,hb,fun j hj=> ?_⟩
  simp only [List.length_take] at hj
  rw [List.getElem_take]
  exact hc j (by omega)
end Go.Proofs.YtccjclalngabhaaGreat.Z
