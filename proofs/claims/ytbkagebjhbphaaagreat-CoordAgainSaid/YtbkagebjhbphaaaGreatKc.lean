/-
  Memory that a call owns: a list of things, each in blocks of its own; all else is as it was.
  Conditions: none beyond each law's own.
-/
import Derived.Test.YtbkagebjhbphaaaGreatKb
import Derived.Lib.Hide
import Derived.Deep.AppendSrc
import Derived.Deep.Draws
namespace Go.Proofs.YtbkagebjhbphaaaGreat
open List renaming getElem?_append_left→m8,getElem?_append_right→o0,getElem?_cons_zero→m6,getElem?_eq_some_iff→m7
open Nat renaming add_sub_cancel_left→o1,le_refl→m5,lt_of_lt_of_le→m9
set_option linter.unusedVariables false
set_option linter.unusedSimpArgs false
open Go.RowKit
@[reducible] def HP:Type:=(Nat→Option Obj)→Prop
def kH (L:List HP) (h:Nat→Option Obj):Prop:=
  ∃ f:Nat→Nat→Option Obj,(∀ (i:Nat) (R:HP),L[i]? =some R→R (f i))∧(∀ i k o,f i k=some o→h k=some o)∧(∀ i j k,i≠j→f i k=none∨f j k=none)
structure Own (w0:World) (D:Nat→Prop) (w:World) (L:List HP):Prop where
  os:w.os=w0.os
  tape:w.tape=w0.tape
  output:w.output=w0.output
  size:w0.heap.size≤w.heap.size
  keep:∀ k,k < w0.heap.size→¬ D k→w.heap[k]? =w0.heap[k]?
  own:∃ h:Nat→Option Obj,(∀ k o,h k=some o→w.heap[k]? =some o∧(D k∨w0.heap.size≤k))∧kH L h
def Ro (w0:World) (D:Nat→Prop) (φ:World→Prop):Prop:=∀ w:World,(∀ k,k < w0.heap.size→¬ D k→w.heap[k]? =w0.heap[k]?)→φ w
theorem vY {w:World} {k:Nat} {o:Obj} (h:w.heap[k]? =some o):k < w.heap.size:=(Array.getElem?_eq_some_iff.1 h).1
section
variable {w0 w w':World} {D:Nat→Prop} {L L1 L2:List HP} {R R':HP}
theorem Ja (w:World):Own w (fun _=>False) w []:=⟨rfl,rfl,rfl,m5 _,fun _ _ _=>rfl,fun _=>none,fun _ _ h=>(by cases h),fun _ _=>none,fun i R h=>(by simp at h),fun _ _ _ h=>(by cases h),fun _ _ _ _=> .inl rfl⟩
theorem Own.below (H:Own w0 (fun _=>False) w L):Below w0.heap.size w0 w:=⟨H.os,H.tape,H.output,H.size,fun k hk=>H.keep k hk (fun h=>h)⟩
theorem Own.ro {φ:World→Prop} (H:Own w0 D w L) (h:Ro w0 D φ):φ w:=h w H.keep
theorem Own.drew (H:Own w0 D w L):Own w0 D w.drew L:=⟨H.os,H.tape,H.output,H.size,H.keep,H.own⟩
theorem Own.get {i:Nat} (H:Own w0 D w L) (hi:L[i]? =some R):∃ h,R h∧∀ k o,h k=some o→w.heap[k]? =some o:=by
  obtain⟨h,a,f,b,c,d⟩:=H.own
  exact⟨f i,b i R hi,fun k o hk=>(a k o (c i k o hk)).1⟩
def pk (L:List HP):List Nat→Option (List HP)
  | []=>some []
  | i::r=>match L[i]?,pk L r with
    | some R,some s=>some (R::s)
    | _,_=>none
theorem Dv:∀ (idx:List Nat) (L':List HP),pk L idx=some L'→∀ (j:Nat) (R:HP),L'[j]? =some R→∃ i:Nat,idx[j]? =some i∧L[i]? =some R
  | [],L',h,j,R,hj=>by simp [pk] at h; subst h; simp at hj
  | i::r,L',h,j,R,hj=>by
    unfold pk at h
    split at h
    · rename_i c s a b
      simp only [Option.some.injEq] at h
      subst h
      cases j with
      | zero=>simp only [m6,Option.some.injEq] at hj; subst hj; exact⟨i,rfl,a⟩
      | succ j=>exact Dv r s b j R hj
    · cases h
theorem kH.pick {h:Nat→Option Obj} {L':List HP} (idx:List Nat) (hn:idx.Nodup) (hp:pk L idx=some L') (H:kH L h):kH L' h:=by
  obtain⟨f,g,l,m⟩:=H
  refine⟨fun j=>match idx[j]? with | some i=>f i | none=>fun _=>none,fun j R hj=> ?_,fun j k o hk=> ?_,fun j j' k hne=> ?_⟩
  · obtain⟨i,hi,hR⟩:=Dv idx L' hp j R hj
    simp only [hi]; exact g i R hR
  · cases hi:idx[j]? with
    | none=>simp [hi] at hk
    | some i=>simp only [hi] at hk; exact l i k o hk
  · cases hi:idx[j]? with
    | none=>exact .inl (by simp [hi])
    | some i=>
      cases hi':idx[j']? with
      | none=>exact .inr (by simp [hi'])
      | some i'=>
        simp only [hi,hi']
        refine m i i' k fun e=>hne ?_
        subst e
        obtain⟨a,b⟩:=m7.1 hi
        obtain⟨c,d⟩:=m7.1 hi'
        have hp:=List.pairwise_iff_getElem.1 hn
        rcases Nat.lt_trichotomy j j' with e | e | e
        · exact absurd (b.trans d.symm) (hp j j' a c e)
        · exact e
        · exact absurd (d.trans b.symm) (hp j' j c a e)
theorem Own.pick {L':List HP} (H:Own w0 D w L) (idx:List Nat) (hn:idx.Nodup) (hp:pk L idx=some L'):Own w0 D w L':=
  let ⟨h,a,b⟩:=H.own
  ⟨H.os,H.tape,H.output,H.size,H.keep,h,a,b.pick idx hn hp⟩
open Classical in
theorem Own.enter (H:Own w0 D w (L1++L2)):∃ a:Nat→Prop,Own w a w L1∧(∀ φ,Ro w0 D φ→Ro w a φ)∧(∀ w' L',Own w a w' L'→Own w0 D w' (L'++L2))∧
    (∀ (φ:World→Prop) (i:Nat) (R:HP),L2[i]? =some R→(∀ w' h,R h→(∀ k o,h k=some o→w'.heap[k]? =some o)→φ w')→Ro w a φ):=by
  obtain⟨h,d,f,m,g,n⟩:=H.own
  let a:Nat→Prop:=fun k=> ∃ i,i < L1.length∧f i k≠none
  have b:∀ k,a k→D k∨w0.heap.size≤k:=fun k ⟨i,_,hk⟩=>by
    cases hf:f i k with
    | none=>exact absurd hf hk
    | some o=>exact(d k o (g i k o hf)).2
  have hfr:∀ j k o,f (L1.length+j) k=some o→¬ a k:=fun j k o hk ⟨i,hi,hik⟩=>by
    rcases n i (L1.length+j) k e6 with e | e
    · exact hik e
    · rw [hk] at e; cases e
  refine⟨a,⟨rfl,rfl,rfl,m5 _,fun _ _ _=>rfl,fun k=>if a k then h k else none,fun k o hk=> ?_,fun i=>if i < L1.length then f i else fun _=>none,fun i R hi=> ?_,fun i k o hk=> ?_,fun i j k hne=> ?_⟩,fun φ hφ W hW=> ?_,fun w' L' H'=> ?_,fun φ i R hR hφ W hW=> ?_⟩
  · dsimp only at hk
    by_cases hd:a k
    · rw [if_pos hd] at hk; exact⟨(d k o hk).1, .inl hd⟩
    · rw [if_neg hd] at hk; cases hk
  · have hlt:=(m7.1 hi).1
    dsimp only
    rw [if_pos hlt]
    exact m i R (by rw [m8 hlt]; exact hi)
  · dsimp only at hk ⊢
    by_cases hlt:i < L1.length
    · rw [if_pos hlt] at hk
      rw [if_pos (show a k from ⟨i,hlt,by rw [hk]; exact Option.some_ne_none _⟩)]
      exact g i k o hk
    · rw [if_neg hlt] at hk; cases hk
  · dsimp only
    by_cases hlt:i < L1.length
    · by_cases hlt':j < L1.length
      · rw [if_pos hlt,if_pos hlt']; exact n i j k hne
      · exact .inr (by rw [if_neg hlt'])
    · exact .inl (by rw [if_neg hlt])
  · refine hφ W fun k hk hd=> ?_
    have c: ¬ a k:=fun e=>by
      rcases b k e with e | e
      · exact hd e
      · omega
    rw [hW k (m9 hk H.size) c,H.keep k hk hd]
  · obtain⟨h',p,f',s,r,t⟩:=H'.own
    have hdis:∀ j k o,f (L1.length+j) k=some o→∀ i,f' i k=none:=fun j k o hk i=>by
      cases hi:f' i k with
      | none=>rfl
      | some o'=>
        rcases (p k o' (r i k o' hi)).2 with e | e
        · exact absurd e (hfr j k o hk)
        · have:=vY (d k o (g _ k o hk)).1; omega
    have hdis':∀ j k o,f (L1.length+j) k=some o→h' k=none:=fun j k o hk=>by
      cases hi:h' k with
      | none=>rfl
      | some o'=>
        rcases (p k o' hi).2 with e | e
        · exact absurd e (hfr j k o hk)
        · have:=vY (d k o (g _ k o hk)).1; omega
    refine⟨H'.os.trans H.os,H'.tape.trans H.tape,H'.output.trans H.output,Nat.le_trans H.size H'.size,fun k hk hd=> ?_,fun k=>match h' k with | some o=>some o | none=>if ∃ j,f (L1.length+j) k≠none then h k else none,fun k o hk=> ?_,fun i=>if i < L'.length then f' i else f (L1.length+(i - L'.length)),fun i R hi=> ?_,fun i k o hk=> ?_,fun i j k hne=> ?_⟩
    · have c: ¬ a k:=fun e=>by
        rcases b k e with e | e
        · exact hd e
        · omega
      rw [H'.keep k (m9 hk H.size) c,H.keep k hk hd]
    · dsimp only at hk
      cases hh:h' k with
      | some o'=>
        simp only [hh,Option.some.injEq] at hk
        subst hk
        obtain⟨l,q⟩:=p k o' hh
        refine⟨l, ?_⟩
        rcases q with e | e
        · exact b k e
        · exact .inr (Nat.le_trans H.size e)
      | none=>
        simp only [hh] at hk
        by_cases he:∃ j,f (L1.length+j) k≠none
        · rw [if_pos he] at hk
          obtain⟨j,hj⟩:=he
          obtain⟨o',ho'⟩:=Option.ne_none_iff_exists'.1 hj
          obtain⟨l,q⟩:=d k o hk
          exact⟨by rw [H'.keep k (vY l) (hfr j k o' ho')]; exact l,q⟩
        · rw [if_neg he] at hk; cases hk
    · dsimp only
      by_cases hlt:i < L'.length
      · rw [if_pos hlt]; rw [m8 hlt] at hi; exact s i R hi
      · rw [if_neg hlt]
        rw [o0 e6] at hi
        exact m _ R (by rw [o0 e6,o1]; exact hi)
    · dsimp only at hk ⊢
      by_cases hlt:i < L'.length
      · rw [if_pos hlt] at hk
        have:=r i k o hk
        simp only [this]
      · rw [if_neg hlt] at hk
        simp only [hdis' _ k o hk]
        rw [if_pos ⟨_,by rw [hk]; exact Option.some_ne_none _⟩]
        exact g _ k o hk
    · dsimp only
      by_cases hi:i < L'.length
      · by_cases hj:j < L'.length
        · rw [if_pos hi,if_pos hj]; exact t i j k hne
        · rw [if_pos hi,if_neg hj]
          cases hk:f (L1.length+(j - L'.length)) k with
          | none=>exact .inr rfl
          | some o=>exact .inl (hdis _ k o hk i)
      · by_cases hj:j < L'.length
        · rw [if_neg hi,if_pos hj]
          cases hk:f (L1.length+(i - L'.length)) k with
          | none=>exact .inl rfl
          | some o=>exact .inr (hdis _ k o hk j)
        · rw [if_neg hi,if_neg hj]; exact n _ _ k e6
  · refine hφ W (f (L1.length+i)) (m _ R (by rw [o0 e6,o1]; exact hR)) fun k o hk=> ?_
    have:=(d k o (g _ k o hk)).1
    rw [hW k (vY this) (hfr i k o hk)]; exact this
theorem Own.upd (H:Own w0 D w (R::L)) (hos:w'.os=w.os) (htape:w'.tape=w.tape) (hout:w'.output=w.output) (hsz:w.heap.size≤w'.heap.size)
    (hu:∀ a,R a→(∀ k o,a k=some o→w.heap[k]? =some o)→∃ b,R' b∧(∀ k o,b k=some o→w'.heap[k]? =some o∧(a k≠none∨w.heap.size≤k))∧∀ k,k < w.heap.size→a k=none→w'.heap[k]? =w.heap[k]?):Own w0 D w' (R'::L):=by
  obtain⟨g,HE,_,hb,_⟩:=Own.enter (L1:= [R]) (L2:=L) H
  obtain⟨h,a,f,l,c,p⟩:=HE.own
  obtain⟨b,m,d,n⟩:=hu (f 0) (l 0 R rfl) fun k o hk=>(a k o (c 0 k o hk)).1
  have hD:∀ k,f 0 k≠none→g k∨w.heap.size≤k:=fun k hk=>by
    obtain⟨o,ho⟩:=Option.ne_none_iff_exists'.1 hk
    exact(a k o (c 0 k o ho)).2
  refine hb w' [R'] ⟨hos,htape,hout,hsz,fun k hk hd=>n k hk ?_,b,fun k o hk=>⟨(d k o hk).1, ?_⟩,fun i=>if i=0 then b else fun _=>none,fun i S hi=> ?_,fun i k o hk=> ?_,fun i j k hne=> ?_⟩
  · cases e:f 0 k with
    | none=>rfl
    | some o=>
      rcases hD k (by rw [e]; exact Option.some_ne_none _) with e | e
      · exact absurd e hd
      · omega
  · rcases (d k o hk).2 with e | e
    · exact hD k e
    · exact .inr e
  · cases i with
    | zero=>simp only [m6,Option.some.injEq] at hi; subst hi; exact m
    | succ i=>simp at hi
  · by_cases e:i=0
    · simp only [e,if_true] at hk; exact hk
    · simp only [e,if_false] at hk; cases hk
  · by_cases e:i=0
    · by_cases e':j=0
      · omega
      · exact .inr (by simp [e'])
    · exact .inl (by simp [e])
theorem Own.cons {R:HP} (H:Own w0 D w L) (hos:w'.os=w.os) (htape:w'.tape=w.tape) (hout:w'.output=w.output) (hsz:w.heap.size≤w'.heap.size) (hk:∀ k,k < w.heap.size→w'.heap[k]? =w.heap[k]?)
    (a:Nat→Option Obj) (hR:R a) (hh:∀ k o,a k=some o→w'.heap[k]? =some o∧w.heap.size≤k):Own w0 D w' (R::L):=by
  obtain⟨b,HE,_,hb,_⟩:=Own.enter (L1:= []) (L2:=L) H
  refine hb w' [R] ⟨hos,htape,hout,hsz,fun k h _=>hk k h,a,fun k o h=>⟨(hh k o h).1, .inr (hh k o h).2⟩,fun i=>if i=0 then a else fun _=>none,fun i S hi=> ?_,fun i k o hk=> ?_,fun i j k hne=> ?_⟩
  · cases i with
    | zero=>simp only [m6,Option.some.injEq] at hi; subst hi; exact hR
    | succ i=>simp at hi
  · by_cases e:i=0
    · simp only [e,if_true] at hk; exact hk
    · simp only [e,if_false] at hk; cases hk
  · by_cases e:i=0
    · by_cases e':j=0
      · omega
      · exact .inr (by simp [e'])
    · exact .inl (by simp [e])
theorem Own.alloc (H:Own w0 D w L) (o:Obj) (hR:R (fun k=>if k=w.heap.size then some o else none)):Own w0 D (w.alloc o) (R::L):=by
  refine H.cons rfl rfl rfl i8 (fun k hk=>Below.heap_alloc w o k hk) _ hR fun k o' hk=> ?_
  by_cases e:k=w.heap.size
  · simp only [e,if_true,Option.some.injEq] at hk ⊢
    subst hk
    exact⟨heap_alloc_new w _,m5 _⟩
  · simp only [e,if_false] at hk; cases hk
theorem Own.free {R:HP} (H:Own w0 D w L) (hR:R fun _=>none):Own w0 D w (R::L):=
  H.cons rfl rfl rfl (m5 _) (fun _ _=>rfl) _ hR fun k o hk=>by cases hk
theorem Own.imp (H:Own w0 D w (R::L)) (h:∀ a,R a→R' a):Own w0 D w (R'::L):=
  H.upd rfl rfl rfl (m5 _) fun a hr hs=>⟨a,h a hr,fun k o hk=>⟨hs k o hk, .inl (by rw [hk]; exact Option.some_ne_none _)⟩,fun _ _ _=>rfl⟩
end
end Go.Proofs.YtbkagebjhbphaaaGreat
