/-
  Blocks and rows as owned things; slices that read as lists; loads, stores, new blocks, append, copy, conversions, calls as steps.
  Conditions: none beyond each law's own.
-/
import Derived.Test.YtbkagebjhbphaaaGreatKb
import Derived.Lib.Hide
import Derived.Deep.AppendSrc
import Derived.Deep.Draws
import Derived.Laws.IdiomStrings
import Derived.Laws.MakeOwn
namespace Go.Proofs.YtbkagebjhbphaaaGreat
set_option linter.unusedVariables false
set_option linter.unusedSimpArgs false
open Go.RowKit
@[reducible] def HP:Type:=(Nat→Option Obj)→Prop
def kF (L:List HP) (h:Nat→Option Obj):Prop:=
  ∃ f:Nat→Nat→Option Obj,(∀ (i:Nat) (R:HP),L[i]? =some R→R (f i))∧(∀ i k o,f i k=some o→h k=some o)∧(∀ i j k,i≠j→f i k=none∨f j k=none)
structure Own (w0:World) (D:Nat→Prop) (w:World) (L:List HP):Prop where
  os:w.os=w0.os
  tape:w.tape=w0.tape
  output:w.output=w0.output
  size:w0.heap.size≤w.heap.size
  keep:∀ k,k < w0.heap.size→¬ D k→w.heap[k]? =w0.heap[k]?
  own:∃ h:Nat→Option Obj,(∀ k o,h k=some o→w.heap[k]? =some o∧(D k∨w0.heap.size≤k))∧kF L h
def Ro (w0:World) (D:Nat→Prop) (φ:World→Prop):Prop:=∀ w:World,(∀ k,k < w0.heap.size→¬ D k→w.heap[k]? =w0.heap[k]?)→φ w
theorem wy {w:World} {k:Nat} {o:Obj} (h:w.heap[k]? =some o):k < w.heap.size:=(Array.getElem?_eq_some_iff.1 h).1
section
variable {w0 w w':World} {D:Nat→Prop} {L L1 L2:List HP} {R R':HP}
theorem KE (w:World):Own w (fun _=>False) w []:=⟨rfl,rfl,rfl,Nat.le_refl _,fun _ _ _=>rfl,fun _=>none,fun _ _ h=>(by cases h),fun _ _=>none,fun i R h=>(by simp at h),fun _ _ _ h=>(by cases h),fun _ _ _ _=> .inl rfl⟩
theorem Own.below (H:Own w0 (fun _=>False) w L):Below w0.heap.size w0 w:=⟨H.os,H.tape,H.output,H.size,fun k hk=>H.keep k hk (fun h=>h)⟩
theorem Own.ro {φ:World→Prop} (H:Own w0 D w L) (h:Ro w0 D φ):φ w:=h w H.keep
theorem Own.drew (H:Own w0 D w L):Own w0 D w.drew L:=⟨H.os,H.tape,H.output,H.size,H.keep,H.own⟩
theorem Own.get {i:Nat} (H:Own w0 D w L) (hi:L[i]? =some R):∃ h,R h∧∀ k o,h k=some o→w.heap[k]? =some o:=by
  obtain⟨h,a,f,b,d,e⟩:=H.own
  exact⟨f i,b i R hi,fun k o hk=>(a k o (d i k o hk)).1⟩
def pk (L:List HP):List Nat→Option (List HP)
  | []=>some []
  | i::r=>match L[i]?,pk L r with
    | some R,some s=>some (R::s)
    | _,_=>none
theorem EC:∀ (idx:List Nat) (L':List HP),pk L idx=some L'→∀ (j:Nat) (R:HP),L'[j]? =some R→∃ i:Nat,idx[j]? =some i∧L[i]? =some R
  | [],L',h,j,R,hj=>by simp [pk] at h; subst h; simp at hj
  | i::r,L',h,j,R,hj=>by
    unfold pk at h
    split at h
    · rename_i d s a b
      simp only [Option.some.injEq] at h
      subst h
      cases j with
      | zero=>simp only [List.getElem?_cons_zero,Option.some.injEq] at hj; subst hj; exact⟨i,rfl,a⟩
      | succ j=>exact EC r s b j R hj
    · cases h
theorem kF.pick {h:Nat→Option Obj} {L':List HP} (idx:List Nat) (hn:idx.Nodup) (hp:pk L idx=some L') (H:kF L h):kF L' h:=by
  obtain⟨f,m,p,q⟩:=H
  refine⟨fun j=>match idx[j]? with | some i=>f i | none=>fun _=>none,fun j R hj=> ?_,fun j k o hk=> ?_,fun j j' k hne=> ?_⟩
  · obtain⟨i,hi,hR⟩:=EC idx L' hp j R hj
    simp only [hi]; exact m i R hR
  · cases hi:idx[j]? with
    | none=>simp [hi] at hk
    | some i=>simp only [hi] at hk; exact p i k o hk
  · cases hi:idx[j]? with
    | none=>exact .inl (by simp [hi])
    | some i=>
      cases hi':idx[j']? with
      | none=>exact .inr (by simp [hi'])
      | some i'=>
        simp only [hi,hi']
        refine q i i' k fun e=>hne ?_
        subst e
        obtain⟨a,b⟩:=List.getElem?_eq_some_iff.1 hi
        obtain⟨d,l⟩:=List.getElem?_eq_some_iff.1 hi'
        have hp:=List.pairwise_iff_getElem.1 hn
        rcases Nat.lt_trichotomy j j' with e | e | e
        · exact absurd (b.trans l.symm) (hp j j' a d e)
        · exact e
        · exact absurd (l.trans b.symm) (hp j' j d a e)
theorem Own.pick {L':List HP} (H:Own w0 D w L) (idx:List Nat) (hn:idx.Nodup) (hp:pk L idx=some L'):Own w0 D w L':=
  let ⟨h,a,b⟩:=H.own
  ⟨H.os,H.tape,H.output,H.size,H.keep,h,a,b.pick idx hn hp⟩
open Classical in
theorem Own.enter (H:Own w0 D w (L1++L2)):∃ a:Nat→Prop,Own w a w L1∧(∀ φ,Ro w0 D φ→Ro w a φ)∧(∀ w' L',Own w a w' L'→Own w0 D w' (L'++L2))∧
    (∀ (φ:World→Prop) (i:Nat) (R:HP),L2[i]? =some R→(∀ w' h,R h→(∀ k o,h k=some o→w'.heap[k]? =some o)→φ w')→Ro w a φ):=by
  obtain⟨h,l,f,q,m,r⟩:=H.own
  let a:Nat→Prop:=fun k=> ∃ i,i < L1.length∧f i k≠none
  have b:∀ k,a k→D k∨w0.heap.size≤k:=fun k ⟨i,_,hk⟩=>by
    cases hf:f i k with
    | none=>exact absurd hf hk
    | some o=>exact(l k o (m i k o hf)).2
  have hfr:∀ j k o,f (L1.length+j) k=some o→¬ a k:=fun j k o hk ⟨i,hi,hik⟩=>by
    rcases r i (L1.length+j) k e6 with e | e
    · exact hik e
    · rw [hk] at e; cases e
  refine⟨a,⟨rfl,rfl,rfl,Nat.le_refl _,fun _ _ _=>rfl,fun k=>if a k then h k else none,fun k o hk=> ?_,fun i=>if i < L1.length then f i else fun _=>none,fun i R hi=> ?_,fun i k o hk=> ?_,fun i j k hne=> ?_⟩,fun φ hφ W hW=> ?_,fun w' L' H'=> ?_,fun φ i R hR hφ W hW=> ?_⟩
  · dsimp only at hk
    by_cases hd:a k
    · rw [if_pos hd] at hk; exact⟨(l k o hk).1, .inl hd⟩
    · rw [if_neg hd] at hk; cases hk
  · have hlt:=(List.getElem?_eq_some_iff.1 hi).1
    dsimp only
    rw [if_pos hlt]
    exact q i R (by rw [List.getElem?_append_left hlt]; exact hi)
  · dsimp only at hk ⊢
    by_cases hlt:i < L1.length
    · rw [if_pos hlt] at hk
      rw [if_pos (show a k from ⟨i,hlt,by rw [hk]; exact Option.some_ne_none _⟩)]
      exact m i k o hk
    · rw [if_neg hlt] at hk; cases hk
  · dsimp only
    by_cases hlt:i < L1.length
    · by_cases hlt':j < L1.length
      · rw [if_pos hlt,if_pos hlt']; exact r i j k hne
      · exact .inr (by rw [if_neg hlt'])
    · exact .inl (by rw [if_neg hlt])
  · refine hφ W fun k hk hd=> ?_
    have d: ¬ a k:=fun e=>by
      rcases b k e with e | e
      · exact hd e
      · omega
    rw [hW k (Nat.lt_of_lt_of_le hk H.size) d,H.keep k hk hd]
  · obtain⟨h',s,f',y,x,z⟩:=H'.own
    have hdis:∀ j k o,f (L1.length+j) k=some o→∀ i,f' i k=none:=fun j k o hk i=>by
      cases hi:f' i k with
      | none=>rfl
      | some o'=>
        rcases (s k o' (x i k o' hi)).2 with e | e
        · exact absurd e (hfr j k o hk)
        · have:=wy (l k o (m _ k o hk)).1; omega
    have hdis':∀ j k o,f (L1.length+j) k=some o→h' k=none:=fun j k o hk=>by
      cases hi:h' k with
      | none=>rfl
      | some o'=>
        rcases (s k o' hi).2 with e | e
        · exact absurd e (hfr j k o hk)
        · have:=wy (l k o (m _ k o hk)).1; omega
    refine⟨H'.os.trans H.os,H'.tape.trans H.tape,H'.output.trans H.output,Nat.le_trans H.size H'.size,fun k hk hd=> ?_,fun k=>match h' k with | some o=>some o | none=>if ∃ j,f (L1.length+j) k≠none then h k else none,fun k o hk=> ?_,fun i=>if i < L'.length then f' i else f (L1.length+(i - L'.length)),fun i R hi=> ?_,fun i k o hk=> ?_,fun i j k hne=> ?_⟩
    · have d: ¬ a k:=fun e=>by
        rcases b k e with e | e
        · exact hd e
        · omega
      rw [H'.keep k (Nat.lt_of_lt_of_le hk H.size) d,H.keep k hk hd]
    · dsimp only at hk
      cases hh:h' k with
      | some o'=>
        simp only [hh,Option.some.injEq] at hk
        subst hk
        obtain⟨p,u⟩:=s k o' hh
        refine⟨p, ?_⟩
        rcases u with e | e
        · exact b k e
        · exact .inr (Nat.le_trans H.size e)
      | none=>
        simp only [hh] at hk
        by_cases he:∃ j,f (L1.length+j) k≠none
        · rw [if_pos he] at hk
          obtain⟨j,hj⟩:=he
          obtain⟨o',ho'⟩:=Option.ne_none_iff_exists'.1 hj
          obtain⟨p,u⟩:=l k o hk
          exact⟨by rw [H'.keep k (wy p) (hfr j k o' ho')]; exact p,u⟩
        · rw [if_neg he] at hk; cases hk
    · dsimp only
      by_cases hlt:i < L'.length
      · rw [if_pos hlt]; rw [List.getElem?_append_left hlt] at hi; exact y i R hi
      · rw [if_neg hlt]
        rw [List.getElem?_append_right e6] at hi
        exact q _ R (by rw [List.getElem?_append_right e6,Nat.add_sub_cancel_left]; exact hi)
    · dsimp only at hk ⊢
      by_cases hlt:i < L'.length
      · rw [if_pos hlt] at hk
        have:=x i k o hk
        simp only [this]
      · rw [if_neg hlt] at hk
        simp only [hdis' _ k o hk]
        rw [if_pos ⟨_,by rw [hk]; exact Option.some_ne_none _⟩]
        exact m _ k o hk
    · dsimp only
      by_cases hi:i < L'.length
      · by_cases hj:j < L'.length
        · rw [if_pos hi,if_pos hj]; exact z i j k hne
        · rw [if_pos hi,if_neg hj]
          cases hk:f (L1.length+(j - L'.length)) k with
          | none=>exact .inr rfl
          | some o=>exact .inl (hdis _ k o hk i)
      · by_cases hj:j < L'.length
        · rw [if_neg hi,if_pos hj]
          cases hk:f (L1.length+(i - L'.length)) k with
          | none=>exact .inl rfl
          | some o=>exact .inr (hdis _ k o hk j)
        · rw [if_neg hi,if_neg hj]; exact r _ _ k e6
  · refine hφ W (f (L1.length+i)) (q _ R (by rw [List.getElem?_append_right e6,Nat.add_sub_cancel_left]; exact hR)) fun k o hk=> ?_
    have:=(l k o (m _ k o hk)).1
    rw [hW k (wy this) (hfr i k o hk)]; exact this
theorem Own.upd (H:Own w0 D w (R::L)) (hos:w'.os=w.os) (htape:w'.tape=w.tape) (hout:w'.output=w.output) (hsz:w.heap.size≤w'.heap.size)
    (hu:∀ a,R a→(∀ k o,a k=some o→w.heap[k]? =some o)→∃ b,R' b∧(∀ k o,b k=some o→w'.heap[k]? =some o∧(a k≠none∨w.heap.size≤k))∧∀ k,k < w.heap.size→a k=none→w'.heap[k]? =w.heap[k]?):Own w0 D w' (R'::L):=by
  obtain⟨m,HE,_,hb,_⟩:=Own.enter (L1:= [R]) (L2:=L) H
  obtain⟨h,a,f,p,d,s⟩:=HE.own
  obtain⟨b,q,l,r⟩:=hu (f 0) (p 0 R rfl) fun k o hk=>(a k o (d 0 k o hk)).1
  have hD:∀ k,f 0 k≠none→m k∨w.heap.size≤k:=fun k hk=>by
    obtain⟨o,ho⟩:=Option.ne_none_iff_exists'.1 hk
    exact(a k o (d 0 k o ho)).2
  refine hb w' [R'] ⟨hos,htape,hout,hsz,fun k hk hd=>r k hk ?_,b,fun k o hk=>⟨(l k o hk).1, ?_⟩,fun i=>if i=0 then b else fun _=>none,fun i S hi=> ?_,fun i k o hk=> ?_,fun i j k hne=> ?_⟩
  · cases e:f 0 k with
    | none=>rfl
    | some o=>
      rcases hD k (by rw [e]; exact Option.some_ne_none _) with e | e
      · exact absurd e hd
      · omega
  · rcases (l k o hk).2 with e | e
    · exact hD k e
    · exact .inr e
  · cases i with
    | zero=>simp only [List.getElem?_cons_zero,Option.some.injEq] at hi; subst hi; exact q
    | succ i=>simp at hi
  · by_cases e:i=0
    · simp only [e,if_true] at hk; exact hk
    · simp only [e,if_false] at hk; cases hk
  · by_cases e:i=0
    · by_cases e':j=0
      · omega
      · exact .inr (by simp [e'])
    · exact .inl (by simp [e])
theorem Own.cons {R:HP} (H:Own w0 D w L) (hos:w'.os=w.os) (htape:w'.tape=w.tape) (hout:w'.output=w.output) (hsz:w.heap.size≤w'.heap.size) (hk:∀ k,k < w.heap.size→w'.heap[k]? =w.heap[k]?)
    (a:Nat→Option Obj) (hR:R a) (hh:∀ k o,a k=some o→w'.heap[k]? =some o∧w.heap.size≤k):Own w0 D w' (R::L):=by
  obtain⟨b,HE,_,hb,_⟩:=Own.enter (L1:= []) (L2:=L) H
  refine hb w' [R] ⟨hos,htape,hout,hsz,fun k h _=>hk k h,a,fun k o h=>⟨(hh k o h).1, .inr (hh k o h).2⟩,fun i=>if i=0 then a else fun _=>none,fun i S hi=> ?_,fun i k o hk=> ?_,fun i j k hne=> ?_⟩
  · cases i with
    | zero=>simp only [List.getElem?_cons_zero,Option.some.injEq] at hi; subst hi; exact hR
    | succ i=>simp at hi
  · by_cases e:i=0
    · simp only [e,if_true] at hk; exact hk
    · simp only [e,if_false] at hk; cases hk
  · by_cases e:i=0
    · by_cases e':j=0
      · omega
      · exact .inr (by simp [e'])
    · exact .inl (by simp [e])
theorem Own.alloc (H:Own w0 D w L) (o:Obj) (hR:R (fun k=>if k=w.heap.size then some o else none)):Own w0 D (w.alloc o) (R::L):=by
  refine H.cons rfl rfl rfl i7 (fun k hk=>Below.heap_alloc w o k hk) _ hR fun k o' hk=> ?_
  by_cases e:k=w.heap.size
  · simp only [e,if_true,Option.some.injEq] at hk ⊢
    subst hk
    exact⟨heap_alloc_new w _,Nat.le_refl _⟩
  · simp only [e,if_false] at hk; cases hk
theorem Own.free {R:HP} (H:Own w0 D w L) (hR:R fun _=>none):Own w0 D w (R::L):=
  H.cons rfl rfl rfl (Nat.le_refl _) (fun _ _=>rfl) _ hR fun k o hk=>by cases hk
theorem Own.imp (H:Own w0 D w (R::L)) (h:∀ a,R a→R' a):Own w0 D w (R'::L):=
  H.upd rfl rfl rfl (Nat.le_refl _) fun a hr hs=>⟨a,h a hr,fun k o hk=>⟨hs k o hk, .inl (by rw [hk]; exact Option.some_ne_none _)⟩,fun _ _ _=>rfl⟩
end
end Go.Proofs.YtbkagebjhbphaaaGreat
namespace Go.Proofs.YtbkagebjhbphaaaGreat
open List renaming getElem?_drop→m7,getElem?_take→m6,length_append→o2,length_drop→o1,length_take→o0,size_toArray→o3
open Nat renaming mul_le_mul_right→m9,zero_add→m8
set_option linter.unusedVariables false
set_option linter.unusedSimpArgs false
open Go.RowKit
theorem add0 (b off j:Nat):(⟨b,off,none⟩:Addr).add j=⟨b,off+j,none⟩:=by
  unfold Addr.add
  split
  · rename_i h; subst h; simp
  · rfl
def ab:Option Addr→Nat
  | some a=>a.block
  | none=>0
def ao:Option Addr→Nat
  | some a=>a.off
  | none=>0
def iJ (w:World) (g o:Nat) (cs:List Value):Prop:=∀ (j:Nat) (u:Value),cs[j]? =some u→w.cell? ⟨g,o+j,none⟩=some u
def aY (w:World) (sz:Nat) (A:Option Addr) (n:Nat) (xs:List Value):Prop:=xs.length=n *sz∧(0 < n→A=some ⟨ab A,ao A,none⟩∧iJ w (ab A) (ao A) xs)
def vk (fz:Nat × Nat) (n:Nat):Prop:=fz.1=fz.2∨n≤fz.1
theorem vk.no {fz:Nat × Nat} {n:Nat} (h:vk fz n):∀ j,j < n→¬ (fz.1≤j∧j < fz.2):=fun j hj hh=>by
  rcases h with h | h <;> omega
theorem vk.zero (n:Nat):vk (0,0) n:= .inl rfl
def blk (g:Nat) (cs:List Value) (t:TypeId):HP:=fun h=> ∃ fz:Nat × Nat,h g=some (.cells cs.toArray t fz)∧vk fz cs.length
def row (A:Option Addr) (n c:Nat) (xs:List Value) (t:TypeId) (sz:Nat):HP:=fun h=>xs.length=n *sz∧
  ((A=none∧n=0∧c=0)∨∃ (g:Nat) (cur:Array Value) (fz:Nat × Nat),A=some ⟨g,0,none⟩∧h g=some (.cells cur t fz)∧n≤c∧c≤maxLen∧cur.size=c *sz∧cur.toList.take (n *sz)=xs∧vk fz cur.size)
section
variable {P:Program} {w0 w:World} {D:Nat→Prop} {L:List HP} {g o n c sz:Nat} {A:Option Addr} {cs xs:List Value} {t T:TypeId} {v:Value}
theorem iJ.sub {k:Nat} {cs':List Value} (h:iJ w g o cs) (hs:∀ (j:Nat) u,cs'[j]? =some u→cs[k+j]? =some u):iJ w g (o+k) cs':=fun j u hj=>by
  rw [Nat.add_assoc]; exact h _ _ (hs j u hj)
theorem iJ.lit {k m:Nat} {cs':List Value} (h:iJ w g o cs) (hs:(cs.drop k).take m=cs'):iJ w g (o+k) cs':=h.sub fun j u hj=>by
  subst hs
  rw [m6] at hj
  split at hj
  · rw [m7] at hj; exact hj
  · cases hj
theorem iJ.at_ {k:Nat} (h:iJ w g o cs) (hk:cs[k]? =some v):w.cell? ⟨g,o+k,none⟩=some v:=h k v hk
theorem I1 (h:iJ w g 0 cs) (hk:cs[o]? =some v):w.cell? ⟨g,o,none⟩=some v:=by have:=h o v hk; rwa [m8] at this
theorem Own.cls {i:Nat} (H:Own w0 D w L) (hi:L[i]? =some (blk g cs t)):iJ w g 0 cs:=by
  obtain⟨h,⟨fz,a,_⟩,b⟩:=H.get hi
  intro j u hj
  have hg:=b g _ a
  rw [cell_of_row w g (0+j) _ t fz hg,m8,List.getElem?_toArray]
  exact hj
theorem Own.rds {i:Nat} (H:Own w0 D w L) (hi:L[i]? =some (row A n c xs t sz)):aY w sz A n xs:=by
  obtain⟨h,⟨hl,hr⟩,a⟩:=H.get hi
  refine⟨hl,fun hn=> ?_⟩
  rcases hr with ⟨_,d,_⟩ | ⟨g,cur,fz,rfl,b,_,_,_,htk,_⟩
  · omega
  · refine⟨rfl,fun j u hj=> ?_⟩
    have hg:=a g _ b
    show w.cell? ⟨g,0+j,none⟩=some u
    rw [cell_of_row w g (0+j) _ t fz hg,m8, ← Array.getElem?_toList]
    rw [← htk,m6] at hj
    split at hj
    · exact hj
    · cases hj
theorem Own.rowLe {i:Nat} (H:Own w0 D w L) (hi:L[i]? =some (row A n c xs t sz)):n≤c∧c≤maxLen∧xs.length=n *sz:=by
  obtain⟨h,⟨hl,hr⟩,_⟩:=H.get hi
  rcases hr with ⟨_,d,a⟩ | ⟨g,cur,fz,_,_,a,b,_⟩
  · exact⟨e6,e6,hl⟩
  · exact⟨a,b,hl⟩
theorem aY.nil (w:World) (sz:Nat) (A:Option Addr):aY w sz A 0 []:=⟨by simp,fun h=>absurd h (Nat.lt_irrefl 0)⟩
theorem aY.cls (h:aY w sz A n xs) (hn:0 < n):iJ w (ab A) (ao A) xs:=(h.2 hn).2
theorem aY.isSome (h:aY w sz A n xs) (hn:0 < n):A=some ⟨ab A,ao A,none⟩:=(h.2 hn).1
theorem aY.cell {j:Nat} (h:aY w sz A n xs) (hj:xs[j]? =some v):w.cell? ⟨ab A,ao A+j,none⟩=some v:=by
  have hl:=(List.getElem?_eq_some_iff.1 hj).1
  have hn:0 < n:=by
    rcases Nat.eq_zero_or_pos n with e | e
    · rw [h.1,e,Nat.zero_mul] at hl; omega
    · exact e
  exact h.cls hn j v hj
theorem aY.ro (h:aY w sz A n xs) (hz:0 < sz):Ro w (fun _=>False) fun w=>aY w sz A n xs:=fun W hW=>by
  refine⟨h.1,fun hn=>⟨h.isSome hn,fun j u hj=> ?_⟩⟩
  have hc:=h.cls hn j u hj
  rw [World.cell?_of_block (w:=w) (hW _ (World.block_lt_of_cell? w _ hc) (fun e=>e))]
  exact hc
theorem aY.sub {k m:Nat} {A':Option Addr} (h:aY w sz A n xs) (hk:k+m≤n) (hA:0 < m→A'=some ⟨ab A,ao A+k *sz,none⟩):aY w sz A' m ((xs.drop (k *sz)).take (m *sz)):=by
  have e:k *sz+m *sz≤n *sz:=by rw [← Nat.add_mul]; exact m9 _ hk
  have hl:=h.1
  refine⟨by simp only [o0,o1]; omega,fun hm=> ?_⟩
  rw [hA hm]
  exact⟨rfl,(h.cls e6).sub fun j u hj=>by
    rw [m6] at hj
    split at hj
    · rw [m7] at hj; exact hj
    · cases hj⟩
theorem bJ.one {p:Addr} (hT:∀ W,(isAgg T).run P W= .ok false W) (h:w.cell? p=some v):bJ P w T p v:=by
  unfold bJ loadVar
  simp [hT w,h,Result.andThen]
theorem IJ (hT:∀ W,(isAgg T).run P W= .ok true W) (hS:∀ W,(sizeOf T).run P W= .ok cs.length W) (h:iJ w g o cs):bJ P w T ⟨g,o,none⟩ (.agg cs.toArray):=by
  unfold bJ loadVar
  have hl:=run_loadCells_list (P:=P) w ⟨g,o,none⟩ cs fun j u hj=>by rw [add0]; exact h j u hj
  simp [hT w,hS w,Result.andThen,hl]
theorem nL (g o:Nat) (t:TypeId) (fz:Nat × Nat):∀ (vs:List Value) (i:Nat) (cur:Array Value) (w:World),w.heap[g]? =some (.cells cur t fz)→o+i+vs.length≤cur.size→(∀ j,j < cur.size→¬ (fz.1≤j∧j < fz.2))→(∀ v ∈ vs,v.oneCell'=true)→
    (storeCells ⟨g,o,none⟩ vs i).run P w= .ok () (w.setRow g (cur.toList.take (o+i)++vs++cur.toList.drop (o+i+vs.length)).toArray)
  | [],i,cur,w,hg,_,_,_=>by
    simp only [storeCells,List.append_nil,List.length_nil,Nat.add_zero,List.take_append_drop,Array.toArray_toList]
    rw [setRow_self w g cur t fz hg]
    rfl
  | v::rest,i,cur,w,hg,hl,hz,a=>by
    have hi:o+i < cur.size:=by simp at hl; omega
    have hadd:(⟨g,o,none⟩:Addr).add i=⟨g,o+i,none⟩:=add0 g o i
    have hcell:w.cell? ⟨g,o+i,none⟩=some cur[o+i]:=by simp [World.cell?,hg,hi]
    have hfro:w.frozen? ⟨g,o+i,none⟩=false:=by
      have:=hz (o+i) hi
      simp only [World.frozen?,hg]
      rw [Bool.eq_false_iff]
      intro hh
      simp only [Bool.and_eq_true,decide_eq_true_eq] at hh
      exact this hh
    have hst:(store ((⟨g,o,none⟩:Addr).add i) v).run P w= .ok () (w.setRow g (cur.setIfInBounds (o+i) v)):=by
      rw [hadd,run_store P w _ v _ (a v i7),hcell]
      simp [hfro,setCell_eq_setRow w g (o+i) cur t fz v hg]
    have ih:=nL g o t fz rest (i+1) (cur.setIfInBounds (o+i) v) (w.setRow g (cur.setIfInBounds (o+i) v)) (setRow_heap w g cur _ t _ hg) (by simp at hl ⊢; omega) (by simpa using hz) (fun x hx=>a x (by simp [hx]))
    simp only [storeCells,Sem.run_bind,hst,Result.andThen_ok,ih,setRow_setRow]
    congr 3
    have e:=list_seg_step cur.toList (o+i) v rest (by simp at hl ⊢; omega)
    simpa [Array.toList_setIfInBounds,Nat.add_assoc] using e
def put (cur:List Value) (o:Nat) (vs:List Value):List Value:=cur.take o++vs++cur.drop (o+vs.length)
theorem sP {cur vs:List Value} {o:Nat} (h:o+vs.length≤cur.length):(put cur o vs).length=cur.length:=by
  simp only [put,o2,o0,o1]; omega
theorem JA {vs:List Value} (hS:∀ W,(sizeOf T).run P W= .ok vs.length W) (hv:v.cells=vs.toArray) (hr:(storeCells ⟨g,o,none⟩ vs 0).run P w= .ok () w0):(storeVar T ⟨g,o,none⟩ v).run P w= .ok () w0:=by
  unfold storeVar
  simp [hv,hS w,Result.andThen,hr]
theorem Own.store {vs:List Value} {cs':List Value} (H:Own w0 D w (blk g cs t::L)) (f:vs.all Value.oneCell'=true) (hf:o+vs.length≤cs.length) (hc:put cs o vs=cs'):
    ∃ w',(storeCells ⟨g,o,none⟩ vs 0).run P w= .ok () w'∧Own w0 D w' (blk g cs' t::L):=by
  obtain⟨h,⟨fz,j,l⟩,m⟩:=H.get (i:=0) rfl
  have hg:=m g _ j
  have hr:=nL (P:=P) g o t fz vs 0 cs.toArray w hg (by simpa using hf) (by simpa using l.no) (by simpa using f)
  refine⟨_,hr,H.upd rfl rfl rfl (by simp [World.setRow]) fun r ⟨a,d,p⟩ hk=> ?_⟩
  have hfz:a=fz:=by
    have:=hk g _ d
    rw [hg] at this
    injection this with this
    injection this with _ _ this
    exact this.symm
  subst hfz
  refine⟨fun k=>if k=g then some (.cells cs'.toArray t a) else none,⟨a,by simp,by rw [← hc,sP hf]; exact p⟩,fun k o' hk'=> ?_,fun k q b=> ?_⟩
  · by_cases e:k=g
    · subst e
      simp only [if_true,Option.some.injEq] at hk'
      subst hk'
      refine⟨?_, .inl (by rw [d]; exact Option.some_ne_none _)⟩
      rw [setRow_heap w k _ _ t a hg, ← hc]
      simp [put]
    · simp only [e,if_false] at hk'; cases hk'
  · exact setRow_other w g k _ (fun e=>by subst e; rw [d] at b; cases b)
theorem Own.storeRow {vs:List Value} {xs':List Value} (H:Own w0 D w (row A n c xs t sz::L)) (s:vs.all Value.oneCell'=true) (hn:0 < vs.length) (hf:o+vs.length≤xs.length) (hc:put xs o vs=xs'):
    ∃ w',(storeCells ⟨ab A,ao A+o,none⟩ vs 0).run P w= .ok () w'∧Own w0 D w' (row A n c xs' t sz::L):=by
  obtain⟨h,⟨hl,hr⟩,u⟩:=H.get (i:=0) rfl
  rcases hr with ⟨_,x,_⟩ | ⟨g,cur,fz,rfl,y,m,z,p,B,q⟩
  · rw [hl,x,Nat.zero_mul] at hf; omega
  have hg:=u g _ y
  have hle:n *sz≤cur.size:=by rw [p]; exact m9 _ m
  have hr:=nL (P:=P) g o t fz vs 0 cur w hg (by simp only [Nat.add_zero]; omega) q.no (by simpa using s)
  have C:(⟨ab (some (⟨g,0,none⟩:Addr)),ao (some (⟨g,0,none⟩:Addr))+o,none⟩:Addr)=⟨g,o,none⟩:=by simp [ab,ao]
  rw [C]
  refine⟨_,hr,H.upd rfl rfl rfl (by simp [World.setRow]) fun J ⟨_,E⟩ hk=> ?_⟩
  rcases E with ⟨e,_⟩ | ⟨g',cur',fz',e,f,_,_,_,K,M⟩
  · cases e
  · injection e with e
    injection e with e
    subst e
    have hcc:=hk g _ f
    rw [hg] at hcc
    injection hcc with hcc
    injection hcc with l _ F
    subst l F
    have a:cur.toList.length=cur.size:=Array.length_toList
    have hput:(put cur.toList o vs).length=cur.size:=by rw [sP e6,a]
    refine⟨fun k=>if k=g then some (.cells (put cur.toList o vs).toArray t fz) else none,⟨by rw [← hc,sP hf,hl], .inr ⟨g,(put cur.toList o vs).toArray,fz,rfl,by simp,m,z,by rw [o3,hput,p], ?_,by rw [o3,hput]; exact q⟩⟩,fun k o' hk'=> ?_,fun k G b=> ?_⟩
    · rw [← hc, ← B]
      simp only [List.toList_toArray,put]
      have hcl:cur.toList.length=cur.size:=Array.length_toList
      have hxs:xs.length≤cur.toList.length:=by rw [hl,hcl]; exact hle
      apply List.ext_getElem?
      intro j
      simp only [m6,List.getElem?_append,m7,o0,o2,o1,hcl]
      have l:min o cur.size=o:=by omega
      have I:min o (min (n *sz) cur.size)=o:=by omega
      rw [l,I]
      by_cases hj:j < n *sz
      · by_cases d:j < o+vs.length
        · by_cases r:j < o
          · simp [hj,d,r]
          · simp [hj,d,r]
        · have:o+vs.length+(j - (o+vs.length)) < n *sz:=by omega
          simp [hj,d,this]
      · have d: ¬ j < o+vs.length:=by omega
        have: ¬ o+vs.length+(j - (o+vs.length)) < n *sz:=by omega
        simp [hj,d,this]
    · by_cases e:k=g
      · subst e
        simp only [if_true,Option.some.injEq] at hk'
        subst hk'
        refine⟨?_, .inl (by rw [f]; exact Option.some_ne_none _)⟩
        rw [setRow_heap w k _ _ t fz hg]
        simp [put]
      · simp only [e,if_false] at hk'; cases hk'
    · exact setRow_other w g k _ (fun e=>by subst e; rw [f] at b; cases b)
end
end Go.Proofs.YtbkagebjhbphaaaGreat
