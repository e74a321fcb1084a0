/-
  Things owned that are made of things; lists of them.
  Conditions: none beyond each law's own.
-/
import Derived.Test.YtccjclalngabhaaGreatKf
namespace Go.Proofs.YtccjclalngabhaaGreat
set_option linter.unusedVariables false
set_option linter.unusedSimpArgs false
open Go.RowKit
section
variable {w0 w:World} {D:Nat→Prop} {L L1 L2:List HP} {R:HP} {h:Nat→Option Obj}
theorem iW.mono {h':Nat→Option Obj} (H:iW L h) (hs:∀ k o,h k=some o→h' k=some o):iW L h':=
  let ⟨f,a,b,d⟩:=H
  ⟨f,a,fun i k o hk=>hs k o (b i k o hk),d⟩
open Classical in
theorem iW.uncons (H:iW (R::L) h):∃ a b:Nat→Option Obj,R a∧iW L b∧(∀ k o,a k=some o→h k=some o)∧(∀ k o,b k=some o→h k=some o)∧∀ k,a k=none∨b k=none:=by
  obtain⟨f,d,l,m⟩:=H
  refine⟨f 0,fun k=>if ∃ i,f (i+1) k≠none then h k else none,d 0 R rfl,⟨fun i=>f (i+1),fun i S hi=>d (i+1) S (by simpa using hi),fun i k o hk=> ?_,fun i j k hne=>m _ _ k (by omega)⟩,l 0,fun k o hk=> ?_,fun k=> ?_⟩
  · show (if ∃ i,f (i+1) k≠none then h k else none)=some o
    have hk':f (i+1) k=some o:=hk
    rw [if_pos ⟨i,by rw [hk']; exact Option.some_ne_none _⟩]
    exact l _ k o hk'
  · by_cases e:∃ i,f (i+1) k≠none
    · simp only [e,if_true] at hk; exact hk
    · simp only [e,if_false] at hk; cases hk
  · by_cases e:∃ i,f (i+1) k≠none
    · obtain⟨i,hi⟩:=e
      rcases m 0 (i+1) k (by omega) with e | e
      · exact .inl e
      · exact absurd e hi
    · exact .inr (by simp only [e,if_false])
theorem iW.cons {a b:Nat→Option Obj} (hR:R a) (H:iW L b) (s1:∀ k o,a k=some o→h k=some o) (s2:∀ k o,b k=some o→h k=some o) (hd:∀ k,a k=none∨b k=none):iW (R::L) h:=by
  obtain⟨f,l,d,m⟩:=H
  have key:∀ i k,a k=none∨f i k=none:=fun i k=>by
    rcases hd k with e | e
    · exact .inl e
    · right
      cases hi:f i k with
      | none=>rfl
      | some o=>rw [d i k o hi] at e; cases e
  refine⟨fun i=>match i with | 0=>a | i+1=>f i,fun i S hi=> ?_,fun i k o hk=> ?_,fun i j k hne=> ?_⟩
  · cases i with
    | zero=>simp only [List.getElem?_cons_zero,Option.some.injEq] at hi; subst hi; exact hR
    | succ i=>simp only [List.getElem?_cons_succ] at hi; exact l i S hi
  · cases i with
    | zero=>exact s1 k o hk
    | succ i=>exact s2 k o (d i k o hk)
  · cases i with
    | zero=>
      cases j with
      | zero=>exact absurd rfl hne
      | succ j=>exact key j k
    | succ i=>
      cases j with
      | zero=>exact(key i k).symm
      | succ j=>exact m i j k (by omega)
theorem iW.perm (hp:L1.Perm L2):∀ {h},iW L1 h→iW L2 h:=by
  induction hp with
  | nil=>
    intro h H
    exact H
  | cons R _ ih=>
    intro h H
    obtain⟨i,r,a,b,c,d,e⟩:=H.uncons
    exact iW.cons a (ih b) c d e
  | swap R S L=>
      intro h H
      obtain⟨i,r,a,b,c,d,e⟩:=H.uncons
      obtain⟨s,j,a',b',c',d',e'⟩:=b.uncons
      obtain⟨hr,hq⟩:∃ q:Nat→Option Obj,q=fun k=>match i k with | some o=>some o | none=>j k:=⟨_,rfl⟩
      have u:∀ k o,i k=some o→hr k=some o:=fun k o hk=>by rw [hq]; simp only [hk]
      have v:∀ k o,j k=some o→hr k=some o:=fun k o hk=>by
        rw [hq]
        rcases e k with f | f
        · simp only [f]; exact hk
        · rw [d' k o hk] at f; cases f
      have p:∀ k o,hr k=some o→i k=some o∨j k=some o:=fun k o hk=>by
        rw [hq] at hk
        cases hh:i k with
        | some o'=>simp only [hh] at hk; exact .inl hk
        | none=>simp only [hh] at hk; exact .inr hk
      refine iW.cons a' (iW.cons a b' u v fun k=> ?_) (fun k o hk=>d k o (c' k o hk)) (fun k o hk=> ?_) fun k=> ?_
      · rcases e k with f | f
        · exact .inl f
        · right
          cases hh:j k with
          | none=>rfl
          | some o=>rw [d' k o hh] at f; cases f
      · rcases p k o hk with hk | hk
        · exact c k o hk
        · exact d k o (d' k o hk)
      · cases hh:s k with
        | none=>exact .inl rfl
        | some o=>
          right
          cases hh':hr k with
          | none=>rfl
          | some o'=>
            rcases p k o' hh' with hk | hk
            · rcases e k with f | f
              · rw [hk] at f; cases f
              · rw [c' k o hh] at f; cases f
            · rcases e' k with f | f
              · rw [hh] at f; cases f
              · rw [hk] at f; cases f
  | trans _ _ l m=>
    intro h H
    exact m (l H)
theorem iW.nil (h:Nat→Option Obj):iW [] h:=⟨fun _ _=>none,fun i S hi=>(by simp at hi),fun _ _ _ hk=>(by cases hk),fun _ _ _ _=> .inl rfl⟩
open Classical in
theorem zU:∀ {L1:List HP} {h},iW (L1++L2) h↔∃ j l:Nat→Option Obj,iW L1 j∧iW L2 l∧(∀ k o,j k=some o→h k=some o)∧(∀ k o,l k=some o→h k=some o)∧∀ k,j k=none∨l k=none
  | [],h=>⟨fun H=>⟨fun _=>none,h,iW.nil _,H,fun _ _ hk=>(by cases hk),fun _ _ hk=>hk,fun _=> .inl rfl⟩,fun⟨_,_,_,H,_,s,_⟩=>H.mono s⟩
  | R::L1,h=>by
    constructor
    · intro H
      obtain⟨j,l,a,b,c,d,e⟩:=iW.uncons (show iW (R::(L1++L2)) h from H)
      obtain⟨m,i,B,C,r,z,E⟩:=zU.1 b
      obtain⟨hr,hq⟩:∃ q:Nat→Option Obj,q=fun k=>match j k with | some o=>some o | none=>m k:=⟨_,rfl⟩
      have u:∀ k o,j k=some o→hr k=some o:=fun k o hk=>by rw [hq]; simp only [hk]
      have v:∀ k o,m k=some o→hr k=some o:=fun k o hk=>by
        rw [hq]
        rcases e k with f | f
        · simp only [f]; exact hk
        · rw [r k o hk] at f; cases f
      have p:∀ k o,hr k=some o→j k=some o∨m k=some o:=fun k o hk=>by
        rw [hq] at hk
        cases hh:j k with
        | some o'=>simp only [hh] at hk; exact .inl hk
        | none=>simp only [hh] at hk; exact .inr hk
      refine⟨hr,i,iW.cons a B u v fun k=> ?_,C,fun k o hk=> ?_,fun k o hk=>d k o (z k o hk),fun k=> ?_⟩
      · rcases e k with f | f
        · exact .inl f
        · right
          cases hh:m k with
          | none=>rfl
          | some o=>rw [r k o hh] at f; cases f
      · rcases p k o hk with hk | hk
        · exact c k o hk
        · exact d k o (r k o hk)
      · cases hh:i k with
        | none=>exact .inr rfl
        | some o=>
          left
          cases hh':hr k with
          | none=>rfl
          | some o'=>
            rcases p k o' hh' with hk | hk
            · rcases e k with f | f
              · rw [hk] at f; cases f
              · rw [z k o hh] at f; cases f
            · rcases E k with f | f
              · rw [hk] at f; cases f
              · rw [hh] at f; cases f
    · rintro ⟨j,l,G,I,s1,s2,hd⟩
      obtain⟨m,i,a,b,c,d,e⟩:=G.uncons
      obtain⟨hr,hq⟩:∃ q:Nat→Option Obj,q=fun k=>match i k with | some o=>some o | none=>l k:=⟨_,rfl⟩
      have u:∀ k o,i k=some o→hr k=some o:=fun k o hk=>by rw [hq]; simp only [hk]
      have v:∀ k o,l k=some o→hr k=some o:=fun k o hk=>by
        rw [hq]
        cases hh:i k with
        | none=>simp only [hh]; exact hk
        | some o'=>
          rcases hd k with f | f
          · rw [d k o' hh] at f; cases f
          · rw [hk] at f; cases f
      have p:∀ k o,hr k=some o→i k=some o∨l k=some o:=fun k o hk=>by
        rw [hq] at hk
        cases hh:i k with
        | some o'=>simp only [hh] at hk; exact .inl hk
        | none=>simp only [hh] at hk; exact .inr hk
      refine iW.cons (L:=L1++L2) a (zU.2 ⟨i,l,b,I,u,v,fun k=> ?_⟩) (fun k o hk=>s1 k o (c k o hk)) (fun k o hk=> ?_) fun k=> ?_
      · rcases hd k with f | f
        · left
          cases hh:i k with
          | none=>rfl
          | some o=>rw [d k o hh] at f; cases f
        · exact .inr f
      · rcases p k o hk with hk | hk
        · exact s1 k o (d k o hk)
        · exact s2 k o hk
      · cases hh:m k with
        | none=>exact .inl rfl
        | some o=>
          right
          cases hh':hr k with
          | none=>rfl
          | some o'=>
            rcases p k o' hh' with hk | hk
            · rcases e k with f | f
              · rw [hh] at f; cases f
              · rw [hk] at f; cases f
            · rcases hd k with f | f
              · rw [c k o hh] at f; cases f
              · rw [hk] at f; cases f
def sepL (L:List HP):HP:=fun h=>iW L h
theorem Own.to (H:Own w0 D w L1) (k:∀ h,iW L1 h→iW L2 h):Own w0 D w L2:=
  let ⟨h,a,b⟩:=H.own
  ⟨H.os,H.tape,H.output,H.size,H.keep,h,a,k h b⟩
theorem Own.perm (H:Own w0 D w L1) (hp:L1.Perm L2):Own w0 D w L2:=H.to fun _ h=>h.perm hp
theorem Own.flat (H:Own w0 D w (sepL L1::L2)):Own w0 D w (L1++L2):=H.to fun h hs=>by
  obtain⟨f,i,a,b,c,d,e⟩:=hs.uncons
  exact zU.2 ⟨f,i,a,b,c,d,e⟩
theorem Own.pack (H:Own w0 D w (L1++L2)):Own w0 D w (sepL L1::L2):=H.to fun h hs=>by
  obtain⟨f,i,a,b,c,d,e⟩:=zU.1 hs
  exact iW.cons a b c d e
theorem Bu {α:Type} {S:α→List HP} (H:Own w0 D w (R::L)) (k:∀ h,R h→∃ x,iW (S x) h):∃ x,Own w0 D w (S x++L):=by
  obtain⟨h,i,hs⟩:=H.own
  obtain⟨a,b,c,d,e,f,g⟩:=hs.uncons
  obtain⟨x,hx⟩:=k a c
  exact⟨x,H.os,H.tape,H.output,H.size,H.keep,h,i,zU.2 ⟨a,b,hx,d,e,f,g⟩⟩
theorem Own.sepNil (H:Own w0 D w L):Own w0 D w (sepL []::L):=Own.pack (L1:= []) H
end
section
variable {w:World} {A:Option Addr} {n c sz:Nat} {xs:List Value} {t:TypeId} {g:Nat} {cs:List Value}
theorem bI (w:World) (h:Nat→Option Obj) (hr:row A n c xs t sz h) (a:∀ k o,h k=some o→w.heap[k]? =some o):bD w sz A n xs:=by
  obtain⟨hl,hr⟩:=hr
  refine⟨hl,fun hn=> ?_⟩
  rcases hr with ⟨_,d,_⟩ | ⟨g,cur,fz,rfl,b,_,_,_,htk,_⟩
  · omega
  · refine⟨rfl,fun j u hj=> ?_⟩
    have hg:=a g _ b
    show w.cell? ⟨g,0+j,none⟩=some u
    rw [cell_of_row w g (0+j) _ t fz hg,Nat.zero_add, ← Array.getElem?_toList]
    rw [← htk,List.getElem?_take] at hj
    split at hj
    · exact hj
    · cases hj
theorem wC (a b:UInt8):IntKind.u8.wrap ((a.toNat:Int)+(b.toNat:Int))=((a+b).toNat:Int):=by
  rw [UInt8.toNat_add]
  have d:a.toNat < 256:=a.toNat_lt
  have f:b.toNat < 256:=b.toNat_lt
  simp [IntKind.wrap,IntKind.signed,IntKind.bits]
theorem dV {α:Type} {enc:α→List Value} {ls:List α} {i:Nat} (hz:∀ x,(enc x).length=sz) (hp:0 < sz) (p:bD w sz A n (List.flatMap enc ls)) (hi:i < n):∃ x,ls[i]? =some x:=by
  have h:=p.1
  rw [lv hz] at h
  exact⟨_,List.getElem?_eq_getElem (by rw [Nat.eq_of_mul_eq_mul_right hp h]; exact hi)⟩
theorem mO {α:Type} {enc:α→List Value} (hz:∀ x,(enc x).length=sz) {ls:List α} {i f m:Nat} {x:α} (hx:ls[i]? =some x) (hf:f+m≤sz):i *sz+f+m≤(List.flatMap enc ls).length:=by
  have hi:=(List.getElem?_eq_some_iff.1 hx).1
  rw [lv hz]
  have:(i+1) *sz≤ls.length *sz:=Nat.mul_le_mul_right _ hi
  rw [Nat.add_mul] at this
  omega
theorem bP (t:TypeId) (sz:Nat):row none 0 0 [] t sz fun _=>none:=⟨by simp, .inl ⟨rfl,rfl,rfl⟩⟩
theorem kY {w0:World} {D:Nat→Prop} {L:List HP} {R:HP} {i:Nat} {φ:World→Prop} (H:Own w0 D w L) (hi:L[i]? =some R) (f:∀ w' h,R h→(∀ k o,h k=some o→w'.heap[k]? =some o)→φ w'):φ w:=
  let ⟨h,a,b⟩:=H.get hi
  f w h a b
theorem vW {L:List HP} {R:HP} {i:Nat} {φ:World→Prop} (hi:L[i]? =some R) (f:∀ w' h,R h→(∀ k o,h k=some o→w'.heap[k]? =some o)→φ w'):∀ w' h,sepL L h→(∀ k o,h k=some o→w'.heap[k]? =some o)→φ w':=fun w' h hs a=>
  let ⟨g,b,d,_⟩:=hs
  f w' (g i) (b i R hi) fun k o hk=>a k o (d i k o hk)
end
section
variable {P:Program} {n:Nat} {F:List (Nat × Value)} {w0 w:World} {D:Nat→Prop} {L:List HP} {ty T:TypeId} {K:Value→World→Prop} {x y:Operand} {t e:TypeId} {xs ys news:List Value}
end
theorem sJ {w:World} {g n:Nat} {cur:Array Value} {t:TypeId} {fz:Nat × Nat} (hg:w.heap[g]? =some (.cells cur t fz)):(w.freeze ⟨g,n,none⟩ 1).heap[g]? =some (.cells cur t (if fz.1==fz.2 then(n,n+1) else(min fz.1 n,max fz.2 (n+1)))):=by
  unfold World.freeze
  rw [if_neg (by decide)]
  obtain⟨lo,hi⟩:=fz
  simp [Array.getElem?_modify,hg]
theorem tZ {w:World} {g n k:Nat} (hk:k≠g):(w.freeze ⟨g,n,none⟩ 1).heap[k]? =w.heap[k]? :=by
  unfold World.freeze
  rw [if_neg (by decide)]
  simp [Array.getElem?_modify,Ne.symm hk]
theorem Aw {P:Program} {n:Nat} {F:List (Nat × Value)} {w0 w:World} {D:Nat→Prop} {L:List HP} {ty T e:TypeId} {K:Value→World→Prop} {A:Option Addr} {m c:Nat} {xs:List Value} {x:Operand} (hu:P.underlying T=some (.slice e)) (he:P.underlying e=some (.int .u8))
    (H:Own w0 D w (row A m c xs e 1::L)) (hm:0 < m) (hx:ev F x=some (.slice A m c)) (h:∀ w',Own w0 D w' (row A m c xs e 1::L)→K (.slice A m c) w'):Do P n F w (.convert T T x) ty K:=fun a ha o j E next Q hn=>by
  obtain⟨G,⟨hl,hr⟩,hs⟩:=H.get (i:=0) rfl
  rcases hr with ⟨_,I,_⟩ | ⟨g,cur,fz,rfl,l,p,r,s,u,v⟩
  · omega
  have hg:=hs g _ l
  have hrun:(convert T T (.slice (some ⟨g,0,none⟩) m c)).run P w= .ok (.slice (some ⟨g,0,none⟩) m c) (w.freeze ⟨g,cur.size,none⟩ 1):=by
    have hsh:w.shape? g=some (e,cur.size):=by simp [World.shape?,hg]
    simp [convert,run_underlying hu,run_underlying he,markStringish,shape,freeze,Sem.run,hsh]
  unfold execOp
  rw [j]
  simp only [ha.eval hx,Sem.run_bind,Sem.run_pure,Result.andThen_ok,hrun]
  refine hn _ _ (h _ (H.upd rfl rfl rfl (by unfold World.freeze; rw [if_neg (by decide)]; simp) fun J ⟨_,z⟩ hk=> ?_))
  rcases z with ⟨b,_⟩ | ⟨g',cur',fz',b,f,_,_,_,M,N⟩
  · cases b
  · injection b with b
    injection b with b
    subst b
    have hcc:=hk g _ f
    rw [hg] at hcc
    injection hcc with hcc
    injection hcc with b _ B
    subst b B
    refine⟨fun k=>if k=g then some (.cells cur e (if fz.1==fz.2 then(cur.size,cur.size+1) else(min fz.1 cur.size,max fz.2 (cur.size+1)))) else none,⟨hl, .inr ⟨g,cur,_,rfl,by simp only [if_true]; rfl,p,r,s,u, ?_⟩⟩,fun k o' hk'=> ?_,fun k C d=> ?_⟩
    · by_cases ef:fz.1=fz.2
      · simp only [ef,beq_self_eq_true,if_true]; exact .inr (Nat.le_refl _)
      · have:(fz.1==fz.2)=false:=by simpa using ef
        simp only [this,Bool.false_eq_true,if_false]
        rcases v with q | q
        · exact absurd q ef
        · right; show cur.size≤min fz.1 cur.size; omega
    · by_cases e:k=g
      · subst e
        simp only [if_true,Option.some.injEq] at hk'
        subst hk'
        exact⟨sJ hg, .inl (by rw [f]; exact Option.some_ne_none _)⟩
      · simp only [e,if_false] at hk'; cases hk'
    · exact tZ (fun e=>by subst e; rw [f] at d; cases d)
end Go.Proofs.YtccjclalngabhaaGreat
