/-
  Blocks and rows as owned things; slices that read as lists; loads, stores, new blocks, append, copy, conversions, calls as steps.
  Conditions: none beyond each law's own.
-/
import Derived.Test.YtbkagebjhbphaaaGreatKc
import Derived.Laws.IdiomStrings
import Derived.Laws.MakeOwn
namespace Go.Proofs.YtbkagebjhbphaaaGreat
open List renaming getElem?_drop→o3,getElem?_take→o2,length_append→p5,length_drop→p4,length_take→p3,size_toArray→p6
open Nat renaming mul_le_mul_right→p2,zero_add→o4
set_option linter.unusedVariables false
set_option linter.unusedSimpArgs false
open Go.RowKit
theorem add0 (b off j:Nat):(⟨b,off,none⟩:Addr).add j=⟨b,off+j,none⟩:=by
  unfold Addr.add
  split
  · rename_i h; subst h; simp
  · rfl
def ab:Option Addr→Nat
  | some a=>a.block
  | none=>0
def ao:Option Addr→Nat
  | some a=>a.off
  | none=>0
def jL (w:World) (g o:Nat) (cs:List Value):Prop:=∀ (j:Nat) (u:Value),cs[j]? =some u→w.cell? ⟨g,o+j,none⟩=some u
def bA (w:World) (sz:Nat) (A:Option Addr) (n:Nat) (xs:List Value):Prop:=xs.length=n *sz∧(0 < n→A=some ⟨ab A,ao A,none⟩∧jL w (ab A) (ao A) xs)
def uR (fz:Nat × Nat) (n:Nat):Prop:=fz.1=fz.2∨n≤fz.1
theorem uR.no {fz:Nat × Nat} {n:Nat} (h:uR fz n):∀ j,j < n→¬ (fz.1≤j∧j < fz.2):=fun j hj hh=>by
  rcases h with h | h <;> omega
theorem uR.zero (n:Nat):uR (0,0) n:= .inl rfl
def blk (g:Nat) (cs:List Value) (t:TypeId):HP:=fun h=> ∃ fz:Nat × Nat,h g=some (.cells cs.toArray t fz)∧uR fz cs.length
def row (A:Option Addr) (n c:Nat) (xs:List Value) (t:TypeId) (sz:Nat):HP:=fun h=>xs.length=n *sz∧
  ((A=none∧n=0∧c=0)∨∃ (g:Nat) (cur:Array Value) (fz:Nat × Nat),A=some ⟨g,0,none⟩∧h g=some (.cells cur t fz)∧n≤c∧c≤maxLen∧cur.size=c *sz∧cur.toList.take (n *sz)=xs∧uR fz cur.size)
section
variable {P:Program} {w0 w:World} {D:Nat→Prop} {L:List HP} {g o n c sz:Nat} {A:Option Addr} {cs xs:List Value} {t T:TypeId} {v:Value}
theorem jL.sub {k:Nat} {cs':List Value} (h:jL w g o cs) (hs:∀ (j:Nat) u,cs'[j]? =some u→cs[k+j]? =some u):jL w g (o+k) cs':=fun j u hj=>by
  rw [Nat.add_assoc]; exact h _ _ (hs j u hj)
theorem jL.lit {k m:Nat} {cs':List Value} (h:jL w g o cs) (hs:(cs.drop k).take m=cs'):jL w g (o+k) cs':=h.sub fun j u hj=>by
  subst hs
  rw [o2] at hj
  split at hj
  · rw [o3] at hj; exact hj
  · cases hj
theorem jL.at_ {k:Nat} (h:jL w g o cs) (hk:cs[k]? =some v):w.cell? ⟨g,o+k,none⟩=some v:=h k v hk
theorem jL.of (h:jL w g 0 cs) (hk:cs[o]? =some v):w.cell? ⟨g,o,none⟩=some v:=by have:=h o v hk; rwa [o4] at this
theorem Own.cls {i:Nat} (H:Own w0 D w L) (hi:L[i]? =some (blk g cs t)):jL w g 0 cs:=by
  obtain⟨h,⟨fz,a,_⟩,b⟩:=H.get hi
  intro j u hj
  have hg:=b g _ a
  rw [cell_of_row w g (0+j) _ t fz hg,o4,List.getElem?_toArray]
  exact hj
theorem Own.rds {i:Nat} (H:Own w0 D w L) (hi:L[i]? =some (row A n c xs t sz)):bA w sz A n xs:=by
  obtain⟨h,⟨hl,hr⟩,a⟩:=H.get hi
  refine⟨hl,fun hn=> ?_⟩
  rcases hr with ⟨_,d,_⟩ | ⟨g,cur,fz,rfl,b,_,_,_,htk,_⟩
  · omega
  · refine⟨rfl,fun j u hj=> ?_⟩
    have hg:=a g _ b
    show w.cell? ⟨g,0+j,none⟩=some u
    rw [cell_of_row w g (0+j) _ t fz hg,o4, ← Array.getElem?_toList]
    rw [← htk,o2] at hj
    split at hj
    · exact hj
    · cases hj
theorem Own.rowLe {i:Nat} (H:Own w0 D w L) (hi:L[i]? =some (row A n c xs t sz)):n≤c∧c≤maxLen∧xs.length=n *sz:=by
  obtain⟨h,⟨hl,hr⟩,_⟩:=H.get hi
  rcases hr with ⟨_,d,a⟩ | ⟨g,cur,fz,_,_,a,b,_⟩
  · exact⟨e6,e6,hl⟩
  · exact⟨a,b,hl⟩
theorem bA.nil (w:World) (sz:Nat) (A:Option Addr):bA w sz A 0 []:=⟨by simp,fun h=>absurd h (Nat.lt_irrefl 0)⟩
theorem bA.cls (h:bA w sz A n xs) (hn:0 < n):jL w (ab A) (ao A) xs:=(h.2 hn).2
theorem bA.isSome (h:bA w sz A n xs) (hn:0 < n):A=some ⟨ab A,ao A,none⟩:=(h.2 hn).1
theorem bA.cell {j:Nat} (h:bA w sz A n xs) (hj:xs[j]? =some v):w.cell? ⟨ab A,ao A+j,none⟩=some v:=by
  have hl:=(List.getElem?_eq_some_iff.1 hj).1
  have hn:0 < n:=by
    rcases Nat.eq_zero_or_pos n with e | e
    · rw [h.1,e,Nat.zero_mul] at hl; omega
    · exact e
  exact h.cls hn j v hj
theorem bA.ro (h:bA w sz A n xs) (hz:0 < sz):Ro w (fun _=>False) fun w=>bA w sz A n xs:=fun W hW=>by
  refine⟨h.1,fun hn=>⟨h.isSome hn,fun j u hj=> ?_⟩⟩
  have hc:=h.cls hn j u hj
  rw [World.cell?_of_block (w:=w) (hW _ (World.block_lt_of_cell? w _ hc) (fun e=>e))]
  exact hc
theorem bA.sub {k m:Nat} {A':Option Addr} (h:bA w sz A n xs) (hk:k+m≤n) (hA:0 < m→A'=some ⟨ab A,ao A+k *sz,none⟩):bA w sz A' m ((xs.drop (k *sz)).take (m *sz)):=by
  have e:k *sz+m *sz≤n *sz:=by rw [← Nat.add_mul]; exact p2 _ hk
  have hl:=h.1
  refine⟨by simp only [p3,p4]; omega,fun hm=> ?_⟩
  rw [hA hm]
  exact⟨rfl,(h.cls e6).sub fun j u hj=>by
    rw [o2] at hj
    split at hj
    · rw [o3] at hj; exact hj
    · cases hj⟩
theorem bX.one {p:Addr} (hT:∀ W,(isAgg T).run P W= .ok false W) (h:w.cell? p=some v):bX P w T p v:=by
  unfold bX loadVar
  simp [hT w,h,Result.andThen]
theorem Gf (hT:∀ W,(isAgg T).run P W= .ok true W) (hS:∀ W,(sizeOf T).run P W= .ok cs.length W) (h:jL w g o cs):bX P w T ⟨g,o,none⟩ (.agg cs.toArray):=by
  unfold bX loadVar
  have hl:=run_loadCells_list (P:=P) w ⟨g,o,none⟩ cs fun j u hj=>by rw [add0]; exact h j u hj
  simp [hT w,hS w,Result.andThen,hl]
theorem nE (g o:Nat) (t:TypeId) (fz:Nat × Nat):∀ (vs:List Value) (i:Nat) (cur:Array Value) (w:World),w.heap[g]? =some (.cells cur t fz)→o+i+vs.length≤cur.size→(∀ j,j < cur.size→¬ (fz.1≤j∧j < fz.2))→(∀ v ∈ vs,v.oneCell'=true)→
    (storeCells ⟨g,o,none⟩ vs i).run P w= .ok () (w.setRow g (cur.toList.take (o+i)++vs++cur.toList.drop (o+i+vs.length)).toArray)
  | [],i,cur,w,hg,_,_,_=>by
    simp only [storeCells,List.append_nil,List.length_nil,Nat.add_zero,List.take_append_drop,Array.toArray_toList]
    rw [setRow_self w g cur t fz hg]
    rfl
  | v::rest,i,cur,w,hg,hl,hz,a=>by
    have hi:o+i < cur.size:=by simp at hl; omega
    have hadd:(⟨g,o,none⟩:Addr).add i=⟨g,o+i,none⟩:=add0 g o i
    have hcell:w.cell? ⟨g,o+i,none⟩=some cur[o+i]:=by simp [World.cell?,hg,hi]
    have hfro:w.frozen? ⟨g,o+i,none⟩=false:=by
      have:=hz (o+i) hi
      simp only [World.frozen?,hg]
      rw [Bool.eq_false_iff]
      intro hh
      simp only [Bool.and_eq_true,decide_eq_true_eq] at hh
      exact this hh
    have hst:(store ((⟨g,o,none⟩:Addr).add i) v).run P w= .ok () (w.setRow g (cur.setIfInBounds (o+i) v)):=by
      rw [hadd,run_store P w _ v _ (a v i8),hcell]
      simp [hfro,setCell_eq_setRow w g (o+i) cur t fz v hg]
    have ih:=nE g o t fz rest (i+1) (cur.setIfInBounds (o+i) v) (w.setRow g (cur.setIfInBounds (o+i) v)) (setRow_heap w g cur _ t _ hg) (by simp at hl ⊢; omega) (by simpa using hz) (fun x hx=>a x (by simp [hx]))
    simp only [storeCells,Sem.run_bind,hst,Result.andThen_ok,ih,setRow_setRow]
    congr 3
    have e:=list_seg_step cur.toList (o+i) v rest (by simp at hl ⊢; omega)
    simpa [Array.toList_setIfInBounds,Nat.add_assoc] using e
def put (cur:List Value) (o:Nat) (vs:List Value):List Value:=cur.take o++vs++cur.drop (o+vs.length)
theorem sH {cur vs:List Value} {o:Nat} (h:o+vs.length≤cur.length):(put cur o vs).length=cur.length:=by
  simp only [put,p5,p3,p4]; omega
theorem Ho {vs:List Value} (hS:∀ W,(sizeOf T).run P W= .ok vs.length W) (hv:v.cells=vs.toArray) (hr:(storeCells ⟨g,o,none⟩ vs 0).run P w= .ok () w0):(storeVar T ⟨g,o,none⟩ v).run P w= .ok () w0:=by
  unfold storeVar
  simp [hv,hS w,Result.andThen,hr]
theorem Own.store {vs:List Value} {cs':List Value} (H:Own w0 D w (blk g cs t::L)) (f:vs.all Value.oneCell'=true) (hf:o+vs.length≤cs.length) (hc:put cs o vs=cs'):
    ∃ w',(storeCells ⟨g,o,none⟩ vs 0).run P w= .ok () w'∧Own w0 D w' (blk g cs' t::L):=by
  obtain⟨h,⟨fz,j,l⟩,m⟩:=H.get (i:=0) rfl
  have hg:=m g _ j
  have hr:=nE (P:=P) g o t fz vs 0 cs.toArray w hg (by simpa using hf) (by simpa using l.no) (by simpa using f)
  refine⟨_,hr,H.upd rfl rfl rfl (by simp [World.setRow]) fun r ⟨a,d,p⟩ hk=> ?_⟩
  have hfz:a=fz:=by
    have:=hk g _ d
    rw [hg] at this
    injection this with this
    injection this with _ _ this
    exact this.symm
  subst hfz
  refine⟨fun k=>if k=g then some (.cells cs'.toArray t a) else none,⟨a,by simp,by rw [← hc,sH hf]; exact p⟩,fun k o' hk'=> ?_,fun k q b=> ?_⟩
  · by_cases e:k=g
    · subst e
      simp only [if_true,Option.some.injEq] at hk'
      subst hk'
      refine⟨?_, .inl (by rw [d]; exact Option.some_ne_none _)⟩
      rw [setRow_heap w k _ _ t a hg, ← hc]
      simp [put]
    · simp only [e,if_false] at hk'; cases hk'
  · exact setRow_other w g k _ (fun e=>by subst e; rw [d] at b; cases b)
theorem Own.storeRow {vs:List Value} {xs':List Value} (H:Own w0 D w (row A n c xs t sz::L)) (s:vs.all Value.oneCell'=true) (hn:0 < vs.length) (hf:o+vs.length≤xs.length) (hc:put xs o vs=xs'):
    ∃ w',(storeCells ⟨ab A,ao A+o,none⟩ vs 0).run P w= .ok () w'∧Own w0 D w' (row A n c xs' t sz::L):=by
  obtain⟨h,⟨hl,hr⟩,u⟩:=H.get (i:=0) rfl
  rcases hr with ⟨_,x,_⟩ | ⟨g,cur,fz,rfl,y,m,z,p,B,q⟩
  · rw [hl,x,Nat.zero_mul] at hf; omega
  have hg:=u g _ y
  have hle:n *sz≤cur.size:=by rw [p]; exact p2 _ m
  have hr:=nE (P:=P) g o t fz vs 0 cur w hg (by simp only [Nat.add_zero]; omega) q.no (by simpa using s)
  have C:(⟨ab (some (⟨g,0,none⟩:Addr)),ao (some (⟨g,0,none⟩:Addr))+o,none⟩:Addr)=⟨g,o,none⟩:=by simp [ab,ao]
  rw [C]
  refine⟨_,hr,H.upd rfl rfl rfl (by simp [World.setRow]) fun J ⟨_,E⟩ hk=> ?_⟩
  rcases E with ⟨e,_⟩ | ⟨g',cur',fz',e,f,_,_,_,K,M⟩
  · cases e
  · injection e with e
    injection e with e
    subst e
    have hcc:=hk g _ f
    rw [hg] at hcc
    injection hcc with hcc
    injection hcc with l _ F
    subst l F
    have a:cur.toList.length=cur.size:=Array.length_toList
    have hput:(put cur.toList o vs).length=cur.size:=by rw [sH e6,a]
    refine⟨fun k=>if k=g then some (.cells (put cur.toList o vs).toArray t fz) else none,⟨by rw [← hc,sH hf,hl], .inr ⟨g,(put cur.toList o vs).toArray,fz,rfl,by simp,m,z,by rw [p6,hput,p], ?_,by rw [p6,hput]; exact q⟩⟩,fun k o' hk'=> ?_,fun k G b=> ?_⟩
    · rw [← hc, ← B]
      simp only [List.toList_toArray,put]
      have hcl:cur.toList.length=cur.size:=Array.length_toList
      have hxs:xs.length≤cur.toList.length:=by rw [hl,hcl]; exact hle
      apply List.ext_getElem?
      intro j
      simp only [o2,List.getElem?_append,o3,p3,p5,p4,hcl]
      have l:min o cur.size=o:=by omega
      have I:min o (min (n *sz) cur.size)=o:=by omega
      rw [l,I]
      by_cases hj:j < n *sz
      · by_cases d:j < o+vs.length
        · by_cases r:j < o
          · simp [hj,d,r]
          · simp [hj,d,r]
        · have:o+vs.length+(j - (o+vs.length)) < n *sz:=by omega
          simp [hj,d,this]
      · have d: ¬ j < o+vs.length:=by omega
        have: ¬ o+vs.length+(j - (o+vs.length)) < n *sz:=by omega
        simp [hj,d,this]
    · by_cases e:k=g
      · subst e
        simp only [if_true,Option.some.injEq] at hk'
        subst hk'
        refine⟨?_, .inl (by rw [f]; exact Option.some_ne_none _)⟩
        rw [setRow_heap w k _ _ t fz hg]
        simp [put]
      · simp only [e,if_false] at hk'; cases hk'
    · exact setRow_other w g k _ (fun e=>by subst e; rw [f] at b; cases b)
end
end Go.Proofs.YtbkagebjhbphaaaGreat
