/-
  Things owned that are made of things; lists of them.
  Conditions: none beyond each law's own.
-/
import Derived.Test.YtcnkpjheifkgnaaGreatKf
namespace Go.Proofs.YtcnkpjheifkgnaaGreat
set_option linter.unusedVariables false
set_option linter.unusedSimpArgs false
open Go.RowKit
section
variable {w0 w:World} {D:Nat→Prop} {L L1 L2:List HP} {R:HP} {h:Nat→Option Obj}
theorem kY.mono {h':Nat→Option Obj} (H:kY L h) (hs:∀ k o,h k=some o→h' k=some o):kY L h':=
  let ⟨f,a,b,f3⟩:=H
  ⟨f,a,fun i k o hk=>hs k o (b i k o hk),f3⟩
open Classical in
theorem kY.uncons (H:kY (R::L) h):∃ a b:Nat→Option Obj,R a∧kY L b∧(∀ k o,a k=some o→h k=some o)∧(∀ k o,b k=some o→h k=some o)∧∀ k,a k=none∨b k=none:=by
  obtain⟨f,d,l,f3⟩:=H
  refine⟨f 0,fun k=>if ∃ i,f (i+1) k≠none then h k else none,d 0 R rfl,⟨fun i=>f (i+1),fun i S hi=>d (i+1) S (by simpa using hi),fun i k o hk=> ?_,fun i j k hne=>f3 _ _ k (by omega)⟩,l 0,fun k o hk=> ?_,fun k=> ?_⟩
  · show (if ∃ i,f (i+1) k≠none then h k else none)=some o
    have hk':f (i+1) k=some o:=hk
    rw [if_pos ⟨i,by rw [hk']; exact Option.some_ne_none _⟩]
    exact l _ k o hk'
  · by_cases e:∃ i,f (i+1) k≠none
    · simp only [e,if_true] at hk; exact hk
    · simp only [e,if_false] at hk; cases hk
  · by_cases e:∃ i,f (i+1) k≠none
    · obtain⟨i,hi⟩:=e
      rcases f3 0 (i+1) k (by omega) with e | e
      · exact .inl e
      · exact absurd e hi
    · exact .inr (by simp only [e,if_false])
theorem kY.cons {a b:Nat→Option Obj} (hR:R a) (H:kY L b) (s1:∀ k o,a k=some o→h k=some o) (l:∀ k o,b k=some o→h k=some o) (hd:∀ k,a k=none∨b k=none):kY (R::L) h:=by
  obtain⟨f,m,d,f3⟩:=H
  have key:∀ i k,a k=none∨f i k=none:=fun i k=>by
    rcases hd k with e | e
    · exact .inl e
    · right
      cases hi:f i k with
      | none=>rfl
      | some o=>rw [d i k o hi] at e; cases e
  refine⟨fun i=>match i with | 0=>a | i+1=>f i,fun i S hi=> ?_,fun i k o hk=> ?_,fun i j k hne=> ?_⟩
  · cases i with
    | zero=>simp only [List.getElem?_cons_zero,Option.some.injEq] at hi; subst hi; exact hR
    | succ i=>simp only [List.getElem?_cons_succ] at hi; exact m i S hi
  · cases i with
    | zero=>exact s1 k o hk
    | succ i=>exact l k o (d i k o hk)
  · cases i with
    | zero=>
      cases j with
      | zero=>exact absurd rfl hne
      | succ j=>exact key j k
    | succ i=>
      cases j with
      | zero=>exact(key i k).symm
      | succ j=>exact f3 i j k (by omega)
theorem kY.nil (h:Nat→Option Obj):kY [] h:=⟨fun _ _=>none,fun i S hi=>(by simp at hi),fun _ _ _ hk=>(by cases hk),fun _ _ _ _=> .inl rfl⟩
open Classical in
theorem Dl:∀ {L1:List HP} {h},kY (L1++L2) h↔∃ j l:Nat→Option Obj,kY L1 j∧kY L2 l∧(∀ k o,j k=some o→h k=some o)∧(∀ k o,l k=some o→h k=some o)∧∀ k,j k=none∨l k=none
  | [],h=>⟨fun H=>⟨fun _=>none,h,kY.nil _,H,fun _ _ hk=>(by cases hk),fun _ _ hk=>hk,fun _=> .inl rfl⟩,fun⟨_,_,_,H,_,s,_⟩=>H.mono s⟩
  | R::L1,h=>by
    constructor
    · intro H
      obtain⟨j,l,a,b,c,d,e⟩:=kY.uncons (show kY (R::(L1++L2)) h from H)
      obtain⟨m,i,p1,B,r,z,C⟩:=Dl.1 b
      obtain⟨hr,hq⟩:∃ q:Nat→Option Obj,q=fun k=>match j k with | some o=>some o | none=>m k:=⟨_,rfl⟩
      have u:∀ k o,j k=some o→hr k=some o:=fun k o hk=>by rw [hq]; simp only [hk]
      have v:∀ k o,m k=some o→hr k=some o:=fun k o hk=>by
        rw [hq]
        rcases e k with f | f
        · simp only [f]; exact hk
        · rw [r k o hk] at f; cases f
      have p:∀ k o,hr k=some o→j k=some o∨m k=some o:=fun k o hk=>by
        rw [hq] at hk
        cases hh:j k with
        | some o'=>simp only [hh] at hk; exact .inl hk
        | none=>simp only [hh] at hk; exact .inr hk
      refine⟨hr,i,kY.cons a p1 u v fun k=> ?_,B,fun k o hk=> ?_,fun k o hk=>d k o (z k o hk),fun k=> ?_⟩
      · rcases e k with f | f
        · exact .inl f
        · right
          cases hh:m k with
          | none=>rfl
          | some o=>rw [r k o hh] at f; cases f
      · rcases p k o hk with hk | hk
        · exact c k o hk
        · exact d k o (r k o hk)
      · cases hh:i k with
        | none=>exact .inr rfl
        | some o=>
          left
          cases hh':hr k with
          | none=>rfl
          | some o'=>
            rcases p k o' hh' with hk | hk
            · rcases e k with f | f
              · rw [hk] at f; cases f
              · rw [z k o hh] at f; cases f
            · rcases C k with f | f
              · rw [hk] at f; cases f
              · rw [hh] at f; cases f
    · rintro ⟨j,l,E,G,s1,I,hd⟩
      obtain⟨m,i,a,b,c,d,e⟩:=E.uncons
      obtain⟨hr,hq⟩:∃ q:Nat→Option Obj,q=fun k=>match i k with | some o=>some o | none=>l k:=⟨_,rfl⟩
      have u:∀ k o,i k=some o→hr k=some o:=fun k o hk=>by rw [hq]; simp only [hk]
      have v:∀ k o,l k=some o→hr k=some o:=fun k o hk=>by
        rw [hq]
        cases hh:i k with
        | none=>simp only [hh]; exact hk
        | some o'=>
          rcases hd k with f | f
          · rw [d k o' hh] at f; cases f
          · rw [hk] at f; cases f
      have p:∀ k o,hr k=some o→i k=some o∨l k=some o:=fun k o hk=>by
        rw [hq] at hk
        cases hh:i k with
        | some o'=>simp only [hh] at hk; exact .inl hk
        | none=>simp only [hh] at hk; exact .inr hk
      refine kY.cons (L:=L1++L2) a (Dl.2 ⟨i,l,b,G,u,v,fun k=> ?_⟩) (fun k o hk=>s1 k o (c k o hk)) (fun k o hk=> ?_) fun k=> ?_
      · rcases hd k with f | f
        · left
          cases hh:i k with
          | none=>rfl
          | some o=>rw [d k o hh] at f; cases f
        · exact .inr f
      · rcases p k o hk with hk | hk
        · exact s1 k o (d k o hk)
        · exact I k o hk
      · cases hh:m k with
        | none=>exact .inl rfl
        | some o=>
          right
          cases hh':hr k with
          | none=>rfl
          | some o'=>
            rcases p k o' hh' with hk | hk
            · rcases e k with f | f
              · rw [hh] at f; cases f
              · rw [hk] at f; cases f
            · rcases hd k with f | f
              · rw [c k o hh] at f; cases f
              · rw [hk] at f; cases f
def sepL (L:List HP):HP:=fun h=>kY L h
theorem Own.to (H:Own w0 D w L1) (k:∀ h,kY L1 h→kY L2 h):Own w0 D w L2:=
  let ⟨h,a,b⟩:=H.own
  ⟨H.os,H.tape,H.output,H.size,H.keep,h,a,k h b⟩
theorem Own.flat (H:Own w0 D w (sepL L1::L2)):Own w0 D w (L1++L2):=H.to fun h hs=>by
  obtain⟨f,i,a,b,c,d,e⟩:=hs.uncons
  exact Dl.2 ⟨f,i,a,b,c,d,e⟩
theorem Own.pack (H:Own w0 D w (L1++L2)):Own w0 D w (sepL L1::L2):=H.to fun h hs=>by
  obtain⟨f,i,a,b,c,d,e⟩:=Dl.1 hs
  exact kY.cons a b c d e
theorem EF {α:Type} {S:α→List HP} (H:Own w0 D w (R::L)) (k:∀ h,R h→∃ x,kY (S x) h):∃ x,Own w0 D w (S x++L):=by
  obtain⟨h,i,hs⟩:=H.own
  obtain⟨a,b,c,d,e,f,g⟩:=hs.uncons
  obtain⟨x,hx⟩:=k a c
  exact⟨x,H.os,H.tape,H.output,H.size,H.keep,h,i,Dl.2 ⟨a,b,hx,d,e,f,g⟩⟩
theorem Own.sepNil (H:Own w0 D w L):Own w0 D w (sepL []::L):=Own.pack (L1:= []) H
end
section
variable {w:World} {A:Option Addr} {n c sz:Nat} {xs:List Value} {t:TypeId} {g:Nat} {cs:List Value}
theorem eH (w:World) (h:Nat→Option Obj) (hr:row A n c xs t sz h) (a:∀ k o,h k=some o→w.heap[k]? =some o):bG w sz A n xs:=by
  obtain⟨hl,hr⟩:=hr
  refine⟨hl,fun hn=> ?_⟩
  rcases hr with ⟨_,d,_⟩ | ⟨g,cur,fz,rfl,b,_,_,_,htk,_⟩
  · omega
  · refine⟨rfl,fun j u hj=> ?_⟩
    have hg:=a g _ b
    show w.cell? ⟨g,0+j,none⟩=some u
    rw [cell_of_row w g (0+j) _ t fz hg,Nat.zero_add, ← Array.getElem?_toList]
    rw [← htk,List.getElem?_take] at hj
    split at hj
    · exact hj
    · cases hj
theorem uf (a b:UInt8):IntKind.u8.wrap ((a.toNat:Int)+(b.toNat:Int))=((a+b).toNat:Int):=by
  rw [UInt8.toNat_add]
  have d:a.toNat < 256:=a.toNat_lt
  have f:b.toNat < 256:=b.toNat_lt
  simp [IntKind.wrap,IntKind.signed,IntKind.bits]
theorem bU {α:Type} {enc:α→List Value} {ls:List α} {i:Nat} (hz:∀ x,(enc x).length=sz) (hp:0 < sz) (p:bG w sz A n (List.flatMap enc ls)) (hi:i < n):∃ x,ls[i]? =some x:=by
  have h:=p.1
  rw [mM hz] at h
  exact⟨_,List.getElem?_eq_getElem (by rw [Nat.eq_of_mul_eq_mul_right hp h]; exact hi)⟩
theorem rQ {α:Type} {enc:α→List Value} (hz:∀ x,(enc x).length=sz) {ls:List α} {i f m:Nat} {x:α} (hx:ls[i]? =some x) (hf:f+m≤sz):i *sz+f+m≤(List.flatMap enc ls).length:=by
  have hi:=(List.getElem?_eq_some_iff.1 hx).1
  rw [mM hz]
  have:(i+1) *sz≤ls.length *sz:=Nat.mul_le_mul_right _ hi
  rw [Nat.add_mul] at this
  omega
theorem iD (t:TypeId) (sz:Nat):row none 0 0 [] t sz fun _=>none:=⟨by simp, .inl ⟨rfl,rfl,rfl⟩⟩
theorem rR {w0:World} {D:Nat→Prop} {L:List HP} {R:HP} {i:Nat} {φ:World→Prop} (H:Own w0 D w L) (hi:L[i]? =some R) (f:∀ w' h,R h→(∀ k o,h k=some o→w'.heap[k]? =some o)→φ w'):φ w:=
  let ⟨h,a,b⟩:=H.get hi
  f w h a b
theorem ym {L:List HP} {R:HP} {i:Nat} {φ:World→Prop} (hi:L[i]? =some R) (f:∀ w' h,R h→(∀ k o,h k=some o→w'.heap[k]? =some o)→φ w'):∀ w' h,sepL L h→(∀ k o,h k=some o→w'.heap[k]? =some o)→φ w':=fun w' h hs a=>
  let ⟨g,b,d,_⟩:=hs
  f w' (g i) (b i R hi) fun k o hk=>a k o (d i k o hk)
end
section
variable {P:Program} {n:Nat} {F:List (Nat × Value)} {w0 w:World} {D:Nat→Prop} {L:List HP} {ty T:TypeId} {K:Value→World→Prop} {x y:Operand} {t e:TypeId} {xs ys news:List Value}
end
end Go.Proofs.YtcnkpjheifkgnaaGreat
