/-
  The sum's contracts in the words of walks; rows of pointers; an array that is read as a slice.
  Conditions: none beyond each law's own.
-/
import Derived.Test.YtccjclalngabhaaGreatRdF
import Derived.Test.YtccjclalngabhaaGreatKx
namespace Go.Proofs.YtccjclalngabhaaGreat
set_option linter.unusedVariables false
set_option linter.unusedSimpArgs false
open Go.RowKit
theorem tH:∀ l:List UInt8,List.flatMap eB l=l.map Z.bv
  | []=>rfl
  | x::r=>by rw [List.flatMap_cons,tH r]; rfl
theorem vZ {w:World} {b o:Nat} {u:Value} (h:w.cell? ⟨b,o,none⟩=some u):b < w.heap.size:=by
  rcases Nat.lt_or_ge b w.heap.size with a | a
  · exact a
  · exfalso
    unfold World.cell? at h
    simp only [Array.getElem?_eq_none a] at h
    cases h
theorem uz {w:World} {A:Option Addr} {n:Nat} {l:List UInt8} (h:bD w 1 A n (List.flatMap eB l)):Z.Byt w w.heap.size A n l:=by
  rw [tH] at h
  refine⟨h.1,fun hn=> ?_⟩
  obtain⟨e,hc⟩:=h.2 hn
  have a:=h.1
  refine⟨ab A,ao A,e, ?_,fun j hj=>hc j _ (List.getElem?_eq_getElem hj)⟩
  exact vZ (hc 0 _ (List.getElem?_eq_getElem (by omega)))
theorem Own.grown {a w w':World} {D:Nat→Prop} (H:Own a D w []) (hb:Below w.heap.size w w'):Own a D w' []:=
  ⟨hb.os.trans H.os,hb.tape.trans H.tape,hb.output.trans H.output,Nat.le_trans H.size hb.size,fun k hk hd=>(hb.block k (Nat.lt_of_lt_of_le hk H.size)).trans (H.keep k hk hd),
    fun _=>none,fun _ _ h=>(by cases h),fun _ _=>none,fun i R h=>(by simp at h),fun _ _ _ h=>(by cases h),fun _ _ _ _=> .inl rfl⟩
section
variable {P:Program} {n:Nat} {F:List (Nat × Value)} {w:World} {ty T e sz bytes m c:Nat} {A:Option Addr} {x:Operand}
theorem vv (el:Elem P T e sz bytes) {i j q:Nat} {k k' a:IntKind} (b:i≤j) (d:j≤q) (f:q≤c):(Instr.slice T (.slice A m c) (some (.int k (i:Int))) (some (.int k' (j:Int))) (some (.int a (q:Int)))).run P w= .ok (.slice (fI A i sz q) (j - i) (q - i)) w:=by
  obtain⟨i',_,ht,hi,_,rfl,_⟩:=el
  have ht':P.underlying T=some (.slice (P.elem T)):=by rw [jN ht]; exact ht
  rw [run_slice_any w T A m c ht']
  simp [Instr.sliceBounds,Instr.sliceBound,asIntOf,b,d,f,Result.andThen,sizeOf,typeInfo,jN ht,hi,sliced,fI]
theorem Bc {lx hx' mx:Operand} {i j q:Nat} {k k' a:IntKind} (el:Elem P T e sz bytes) (hx:ev F x=some (.slice A m c)) (hl:ev F lx=some (.int k (i:Int))) (hh:ev F hx'=some (.int k' (j:Int))) (hm:ev F mx=some (.int a (q:Int))) (b:i≤j) (d:j≤q) (f:q≤c):
    Yl P n F w (.slice T x (some lx) (some hx') (some mx)) ty (.slice (fI A i sz q) (j - i) (q - i)):=
  Ab (lo:=some lx) (hi:=some hx') (mx:=some mx) (lo':=some (.int k (i:Int))) (hi':=some (.int k' (j:Int))) (mx':=some (.int a (q:Int))) el hx (by simp [hl]) (by simp [hh]) (by simp [hm]) (vv el b d f)
end
def lL (l:List UInt8):Nat:=Z.sum32 l
def nT (l:List UInt8):Nat:=Z.sum32 l
def eV (v:Value):List Value:= [v]
theorem kZ:∀ v,(eV v).length=1:=fun _=>rfl
theorem wh {w:World} {g n:Nat} {cs xs:List Value} {sz:Nat} (h:fC w g 0 cs) (e:cs=xs) (hn:xs.length=n *sz):bD w sz (some ⟨g,0,none⟩) n xs:=by
  subst e
  exact⟨hn,fun _=>⟨rfl,h⟩⟩
end Go.Proofs.YtccjclalngabhaaGreat
