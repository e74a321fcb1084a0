/-
  What a table's clone wants: rows cloned as they are, one element more that is another one's. Conditions: none beyond each law's own.
-/
import Derived.Test.YtbkagebjhbphaaaGreatRa
namespace Go.Proofs.YtbkagebjhbphaaaGreat
set_option linter.unusedVariables false
section
variable {α:Type} {w0 w:World} {D:Nat→Prop} {L:List HP} {f:α→List HP}
theorem Own.sepIns {ds:List α} {i:Nat} {y:α} (H:Own w0 D w (f y++(sepL (List.flatMap f ds)::L))):Own w0 D w (sepL (List.flatMap f (List.take i ds++(y::List.drop i ds)))::L):=by
  have a:Own w0 D w (sepL (List.flatMap f ds)::(f y++L)):=H.perm List.perm_middle
  have b:=a.flat
  have e:(List.flatMap f ds++(f y++L)).Perm ((List.flatMap f (List.take i ds)++(f y++List.flatMap f (List.drop i ds)))++L):=by
    conv=>lhs; rw [← List.take_append_drop i ds,List.flatMap_append]
    rw [← List.append_assoc]
    refine List.Perm.append_right L ?_
    rw [List.append_assoc]
    exact List.Perm.append_left _ List.perm_append_comm
  rw [List.flatMap_append,List.flatMap_cons]
  exact(b.perm e).pack
theorem pK {β:Type} {g:α→β} {ds:List α} {ls:List β} {i j:Nat} (h:List.map g ds=ls):List.map g (List.take i ds++List.drop j ds)=List.take i ls++List.drop j ls:=by rw [List.map_append,List.map_take,List.map_drop,h]
theorem qZ {β:Type} {g:α→β} {ds:List α} {ls:List β} {i:Nat} {y:α} {z:β} (h:List.map g ds=ls) (hy:g y=z):List.map g (List.take i ds++(y::List.drop i ds))=List.take i ls++(z::List.drop i ls):=by rw [List.map_append,List.map_cons,List.map_take,List.map_drop,h,hy]
end
end Go.Proofs.YtbkagebjhbphaaaGreat
namespace Go.Proofs.YtbkagebjhbphaaaGreat
open List renaming drop→r4,flatMap→q4,map→s5,map_append→v2,perm_middle→E6,take→r3
set_option linter.unusedVariables false
section
variable {α β:Type} {w0 w:World} {D:Nat→Prop} {L:List HP} {f:α→List HP}
theorem xh {es:List α} {y:α} (H:Own w0 D w (f y++(sepL (q4 f es)::L))):Own w0 D w (sepL (q4 f (es++ [y]))::L):=by
  have h:=H.sepIns (i:=es.length)
  rw [List.take_length,List.drop_length] at h
  exact h
theorem xk {d:List α} {k:Nat} {es:List α} (y:α) (he:es.length=k) (hk:k < d.length):List.set (es++r4 k d) k y=(es++ [y])++r4 (k+1) d:=by
  subst he
  rw [List.set_append_right _ _ (Nat.le_refl _),Nat.sub_self,List.drop_eq_getElem_cons hk,List.set_cons_zero,List.append_assoc]
  rfl
theorem yB {d es:List α} {k:Nat} {x:α} (he:es.length=k) (hx:d[k]? =some x):(es++r4 k d)[k]? =some x:=by
  subst he
  rw [List.getElem?_append_right (Nat.le_refl _),Nat.sub_self,List.getElem?_drop,Nat.add_zero,hx]
theorem xm {f:α→β} {d es:List α} {k:Nat} {x y:α} (h:s5 f es=s5 f (r3 k d)) (hx:d[k]? =some x) (hy:f y=f x):s5 f (es++ [y])=s5 f (r3 (k+1) d):=by
  obtain⟨hk,rfl⟩:=List.getElem?_eq_some_iff.1 hx
  rw [List.take_succ_eq_append_getElem hk,v2,v2,h,List.map_cons,List.map_nil,hy,List.map_cons,List.map_nil]
end
open Go.RowKit
section
variable {P:Program} {n:Nat} {F:List (Nat × Value)} {w:World} {ty T e sz bytes m c:Nat} {A:Option Addr} {x:Operand}
theorem Ec (el:Elem P T e sz bytes) {i j q:Nat} {k k' k2:IntKind} (a:i≤j) (b:j≤q) (d:q≤c):(Instr.slice T (.slice A m c) (some (.int k (i:Int))) (some (.int k' (j:Int))) (some (.int k2 (q:Int)))).run P w= .ok (.slice (jw A i sz q) (j - i) (q - i)) w:=by
  obtain⟨i',_,ht,hi,_,rfl,_⟩:=el
  have ht':P.underlying T=some (.slice (P.elem T)):=by rw [oM ht]; exact ht
  rw [run_slice_any w T A m c ht']
  simp [Instr.sliceBounds,Instr.sliceBound,asIntOf,a,b,d,Result.andThen,sizeOf,typeInfo,oM ht,hi,sliced,jw]
theorem Kr {lx hx' mx:Operand} {i j q:Nat} {k k' k2:IntKind} (el:Elem P T e sz bytes) (hx:ev F x=some (.slice A m c)) (hl:ev F lx=some (.int k (i:Int))) (hh:ev F hx'=some (.int k' (j:Int))) (hm:ev F mx=some (.int k2 (q:Int))) (a:i≤j) (b:j≤q) (d:q≤c):
    Yl P n F w (.slice T x (some lx) (some hx') (some mx)) ty (.slice (jw A i sz q) (j - i) (q - i)):=
  J7 (lo:=some lx) (hi:=some hx') (mx:=some mx) (lo':=some (.int k (i:Int))) (hi':=some (.int k' (j:Int))) (mx':=some (.int k2 (q:Int))) el hx (by simp [hl]) (by simp [hh]) (by simp [hm]) (Ec el a b d)
end
section
variable {α:Type} {w0 w:World} {D:Nat→Prop} {L:List HP} {f:α→List HP}
theorem Ai {ds:List α} {i:Nat} {x:α} (hx:ds[i]? =some x) (H:Own w0 D w (sepL (q4 f ds)::L)):Own w0 D w (sepL (q4 f (r3 i ds++r4 (i+1) ds))::(f x++L)):=by
  have h:=Jm (f:=f) (i:=i) hx H
  rw [List.flatMap_append]
  exact h.perm E6
theorem Aj {ds:List α} {i:Nat} {y:α} (H:Own w0 D w (sepL (q4 f ds)::(f y++L))):Own w0 D w (sepL (q4 f (r3 i ds++(y::r4 i ds)))::L):=Own.sepIns (H.perm E6.symm)
end
end Go.Proofs.YtbkagebjhbphaaaGreat
