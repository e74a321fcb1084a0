/-
  Things owned that are made of things; lists of them.
  Conditions: none beyond each law's own.
-/
import Derived.Test.YtbkagebjhbphaaaGreatKf
namespace Go.Proofs.YtbkagebjhbphaaaGreat
open List renaming flatMap→q4,getElem?_cons_succ→q3,getElem?_cons_zero→q0,getElem?_eq_none→r8,getElem?_take→m6,length_take→o0,replicate→r7
open Nat renaming eq_zero_or_pos→p2,min_eq_left→r6,mul_le_mul_right→m9
set_option linter.unusedVariables false
set_option linter.unusedSimpArgs false
open Go.RowKit
section
variable {w0 w:World} {D:Nat→Prop} {L L1 L2:List HP} {R:HP} {h:Nat→Option Obj}
theorem kF.mono {h':Nat→Option Obj} (H:kF L h) (hs:∀ k o,h k=some o→h' k=some o):kF L h':=
  let ⟨f,a,b,d⟩:=H
  ⟨f,a,fun i k o hk=>hs k o (b i k o hk),d⟩
open Classical in
theorem kF.uncons (H:kF (R::L) h):∃ a b:Nat→Option Obj,R a∧kF L b∧(∀ k o,a k=some o→h k=some o)∧(∀ k o,b k=some o→h k=some o)∧∀ k,a k=none∨b k=none:=by
  obtain⟨f,d,l,m⟩:=H
  refine⟨f 0,fun k=>if ∃ i,f (i+1) k≠none then h k else none,d 0 R rfl,⟨fun i=>f (i+1),fun i S hi=>d (i+1) S (by simpa using hi),fun i k o hk=> ?_,fun i j k hne=>m _ _ k e6⟩,l 0,fun k o hk=> ?_,fun k=> ?_⟩
  · show (if ∃ i,f (i+1) k≠none then h k else none)=some o
    have hk':f (i+1) k=some o:=hk
    rw [if_pos ⟨i,by rw [hk']; exact Option.some_ne_none _⟩]
    exact l _ k o hk'
  · by_cases e:∃ i,f (i+1) k≠none
    · simp only [e,if_true] at hk; exact hk
    · simp only [e,if_false] at hk; cases hk
  · by_cases e:∃ i,f (i+1) k≠none
    · obtain⟨i,hi⟩:=e
      rcases m 0 (i+1) k e6 with e | e
      · exact .inl e
      · exact absurd e hi
    · exact .inr (by simp only [e,if_false])
theorem kF.cons {a b:Nat→Option Obj} (hR:R a) (H:kF L b) (l:∀ k o,a k=some o→h k=some o) (m:∀ k o,b k=some o→h k=some o) (hd:∀ k,a k=none∨b k=none):kF (R::L) h:=by
  obtain⟨f,p,d,q⟩:=H
  have key:∀ i k,a k=none∨f i k=none:=fun i k=>by
    rcases hd k with e | e
    · exact .inl e
    · right
      cases hi:f i k with
      | none=>rfl
      | some o=>rw [d i k o hi] at e; cases e
  refine⟨fun i=>match i with | 0=>a | i+1=>f i,fun i S hi=> ?_,fun i k o hk=> ?_,fun i j k hne=> ?_⟩
  · cases i with
    | zero=>simp only [q0,Option.some.injEq] at hi; subst hi; exact hR
    | succ i=>simp only [q3] at hi; exact p i S hi
  · cases i with
    | zero=>exact l k o hk
    | succ i=>exact m k o (d i k o hk)
  · cases i with
    | zero=>
      cases j with
      | zero=>exact absurd rfl hne
      | succ j=>exact key j k
    | succ i=>
      cases j with
      | zero=>exact(key i k).symm
      | succ j=>exact q i j k e6
theorem kF.perm (hp:L1.Perm L2):∀ {h},kF L1 h→kF L2 h:=by
  induction hp with
  | nil=>
    intro h H
    exact H
  | cons R _ ih=>
    intro h H
    obtain⟨i,r,a,b,c,d,e⟩:=H.uncons
    exact kF.cons a (ih b) c d e
  | swap R S L=>
      intro h H
      obtain⟨i,r,a,b,c,d,e⟩:=H.uncons
      obtain⟨s,j,a',b',c',d',e'⟩:=b.uncons
      obtain⟨hr,hq⟩:∃ q:Nat→Option Obj,q=fun k=>match i k with | some o=>some o | none=>j k:=⟨_,rfl⟩
      have u:∀ k o,i k=some o→hr k=some o:=fun k o hk=>by rw [hq]; simp only [hk]
      have v:∀ k o,j k=some o→hr k=some o:=fun k o hk=>by
        rw [hq]
        rcases e k with f | f
        · simp only [f]; exact hk
        · rw [d' k o hk] at f; cases f
      have p:∀ k o,hr k=some o→i k=some o∨j k=some o:=fun k o hk=>by
        rw [hq] at hk
        cases hh:i k with
        | some o'=>simp only [hh] at hk; exact .inl hk
        | none=>simp only [hh] at hk; exact .inr hk
      refine kF.cons a' (kF.cons a b' u v fun k=> ?_) (fun k o hk=>d k o (c' k o hk)) (fun k o hk=> ?_) fun k=> ?_
      · rcases e k with f | f
        · exact .inl f
        · right
          cases hh:j k with
          | none=>rfl
          | some o=>rw [d' k o hh] at f; cases f
      · rcases p k o hk with hk | hk
        · exact c k o hk
        · exact d k o (d' k o hk)
      · cases hh:s k with
        | none=>exact .inl rfl
        | some o=>
          right
          cases hh':hr k with
          | none=>rfl
          | some o'=>
            rcases p k o' hh' with hk | hk
            · rcases e k with f | f
              · rw [hk] at f; cases f
              · rw [c' k o hh] at f; cases f
            · rcases e' k with f | f
              · rw [hh] at f; cases f
              · rw [hk] at f; cases f
  | trans _ _ l m=>
    intro h H
    exact m (l H)
theorem kF.nil (h:Nat→Option Obj):kF [] h:=⟨fun _ _=>none,fun i S hi=>(by simp at hi),fun _ _ _ hk=>(by cases hk),fun _ _ _ _=> .inl rfl⟩
open Classical in
theorem kF.app:∀ {L1:List HP} {h},kF (L1++L2) h↔∃ j l:Nat→Option Obj,kF L1 j∧kF L2 l∧(∀ k o,j k=some o→h k=some o)∧(∀ k o,l k=some o→h k=some o)∧∀ k,j k=none∨l k=none
  | [],h=>⟨fun H=>⟨fun _=>none,h,kF.nil _,H,fun _ _ hk=>(by cases hk),fun _ _ hk=>hk,fun _=> .inl rfl⟩,fun⟨_,_,_,H,_,s,_⟩=>H.mono s⟩
  | R::L1,h=>by
    constructor
    · intro H
      obtain⟨j,l,a,b,c,d,e⟩:=kF.uncons (show kF (R::(L1++L2)) h from H)
      obtain⟨m,i,C,E,r,z,G⟩:=kF.app.1 b
      obtain⟨hr,hq⟩:∃ q:Nat→Option Obj,q=fun k=>match j k with | some o=>some o | none=>m k:=⟨_,rfl⟩
      have u:∀ k o,j k=some o→hr k=some o:=fun k o hk=>by rw [hq]; simp only [hk]
      have v:∀ k o,m k=some o→hr k=some o:=fun k o hk=>by
        rw [hq]
        rcases e k with f | f
        · simp only [f]; exact hk
        · rw [r k o hk] at f; cases f
      have p:∀ k o,hr k=some o→j k=some o∨m k=some o:=fun k o hk=>by
        rw [hq] at hk
        cases hh:j k with
        | some o'=>simp only [hh] at hk; exact .inl hk
        | none=>simp only [hh] at hk; exact .inr hk
      refine⟨hr,i,kF.cons a C u v fun k=> ?_,E,fun k o hk=> ?_,fun k o hk=>d k o (z k o hk),fun k=> ?_⟩
      · rcases e k with f | f
        · exact .inl f
        · right
          cases hh:m k with
          | none=>rfl
          | some o=>rw [r k o hh] at f; cases f
      · rcases p k o hk with hk | hk
        · exact c k o hk
        · exact d k o (r k o hk)
      · cases hh:i k with
        | none=>exact .inr rfl
        | some o=>
          left
          cases hh':hr k with
          | none=>rfl
          | some o'=>
            rcases p k o' hh' with hk | hk
            · rcases e k with f | f
              · rw [hk] at f; cases f
              · rw [z k o hh] at f; cases f
            · rcases G k with f | f
              · rw [hk] at f; cases f
              · rw [hh] at f; cases f
    · rintro ⟨j,l,I,J,B,M,hd⟩
      obtain⟨m,i,a,b,c,d,e⟩:=I.uncons
      obtain⟨hr,hq⟩:∃ q:Nat→Option Obj,q=fun k=>match i k with | some o=>some o | none=>l k:=⟨_,rfl⟩
      have u:∀ k o,i k=some o→hr k=some o:=fun k o hk=>by rw [hq]; simp only [hk]
      have v:∀ k o,l k=some o→hr k=some o:=fun k o hk=>by
        rw [hq]
        cases hh:i k with
        | none=>simp only [hh]; exact hk
        | some o'=>
          rcases hd k with f | f
          · rw [d k o' hh] at f; cases f
          · rw [hk] at f; cases f
      have p:∀ k o,hr k=some o→i k=some o∨l k=some o:=fun k o hk=>by
        rw [hq] at hk
        cases hh:i k with
        | some o'=>simp only [hh] at hk; exact .inl hk
        | none=>simp only [hh] at hk; exact .inr hk
      refine kF.cons (L:=L1++L2) a (kF.app.2 ⟨i,l,b,J,u,v,fun k=> ?_⟩) (fun k o hk=>B k o (c k o hk)) (fun k o hk=> ?_) fun k=> ?_
      · rcases hd k with f | f
        · left
          cases hh:i k with
          | none=>rfl
          | some o=>rw [d k o hh] at f; cases f
        · exact .inr f
      · rcases p k o hk with hk | hk
        · exact B k o (d k o hk)
        · exact M k o hk
      · cases hh:m k with
        | none=>exact .inl rfl
        | some o=>
          right
          cases hh':hr k with
          | none=>rfl
          | some o'=>
            rcases p k o' hh' with hk | hk
            · rcases e k with f | f
              · rw [hh] at f; cases f
              · rw [hk] at f; cases f
            · rcases hd k with f | f
              · rw [c k o hh] at f; cases f
              · rw [hk] at f; cases f
def sepL (L:List HP):HP:=fun h=>kF L h
theorem Own.to (H:Own w0 D w L1) (k:∀ h,kF L1 h→kF L2 h):Own w0 D w L2:=
  let ⟨h,a,b⟩:=H.own
  ⟨H.os,H.tape,H.output,H.size,H.keep,h,a,k h b⟩
theorem Own.perm (H:Own w0 D w L1) (hp:L1.Perm L2):Own w0 D w L2:=H.to fun _ h=>h.perm hp
theorem Own.flat (H:Own w0 D w (sepL L1::L2)):Own w0 D w (L1++L2):=H.to fun h hs=>by
  obtain⟨f,i,a,b,c,d,e⟩:=hs.uncons
  exact kF.app.2 ⟨f,i,a,b,c,d,e⟩
theorem Own.pack (H:Own w0 D w (L1++L2)):Own w0 D w (sepL L1::L2):=H.to fun h hs=>by
  obtain⟨f,i,a,b,c,d,e⟩:=kF.app.1 hs
  exact kF.cons a b c d e
theorem Own.open {α:Type} {S:α→List HP} (H:Own w0 D w (R::L)) (k:∀ h,R h→∃ x,kF (S x) h):∃ x,Own w0 D w (S x++L):=by
  obtain⟨h,i,hs⟩:=H.own
  obtain⟨a,b,c,d,e,f,g⟩:=hs.uncons
  obtain⟨x,hx⟩:=k a c
  exact⟨x,H.os,H.tape,H.output,H.size,H.keep,h,i,kF.app.2 ⟨a,b,hx,d,e,f,g⟩⟩
theorem KP (H:Own w0 D w (L1++L)) (k:∀ h,kF L1 h→R h):Own w0 D w (R::L):=H.to fun h hs=>by
  obtain⟨a,b,c,d,e,f,g⟩:=kF.app.1 hs
  exact kF.cons (k a c) d e f g
theorem Own.sepNil (H:Own w0 D w L):Own w0 D w (sepL []::L):=Own.pack (L1:= []) H
end
section
variable {w:World} {A:Option Addr} {n c sz:Nat} {xs:List Value} {t:TypeId} {g:Nat} {cs:List Value}
theorem aW (w:World) (h:Nat→Option Obj) (hr:row A n c xs t sz h) (a:∀ k o,h k=some o→w.heap[k]? =some o):aY w sz A n xs:=by
  obtain⟨hl,hr⟩:=hr
  refine⟨hl,fun hn=> ?_⟩
  rcases hr with ⟨_,d,_⟩ | ⟨g,cur,fz,rfl,b,_,_,_,htk,_⟩
  · omega
  · refine⟨rfl,fun j u hj=> ?_⟩
    have hg:=a g _ b
    show w.cell? ⟨g,0+j,none⟩=some u
    rw [cell_of_row w g (0+j) _ t fz hg,Nat.zero_add, ← Array.getElem?_toList]
    rw [← htk,m6] at hj
    split at hj
    · exact hj
    · cases hj
theorem FC (a b:UInt8):IntKind.u8.wrap ((a.toNat:Int)+(b.toNat:Int))=((a+b).toNat:Int):=by
  rw [UInt8.toNat_add]
  have d:a.toNat < 256:=a.toNat_lt
  have f:b.toNat < 256:=b.toNat_lt
  simp [IntKind.wrap,IntKind.signed,IntKind.bits]
theorem dh {α:Type} {enc:α→List Value} {ls:List α} {i:Nat} (hz:∀ x,(enc x).length=sz) (hp:0 < sz) (p:aY w sz A n (q4 enc ls)) (hi:i < n):∃ x,ls[i]? =some x:=by
  have h:=p.1
  rw [jy hz] at h
  exact⟨_,List.getElem?_eq_getElem (by rw [Nat.eq_of_mul_eq_mul_right hp h]; exact hi)⟩
theorem ja {α:Type} {enc:α→List Value} (hz:∀ x,(enc x).length=sz) {ls:List α} {i f m:Nat} {x:α} (hx:ls[i]? =some x) (hf:f+m≤sz):i *sz+f+m≤(q4 enc ls).length:=by
  have hi:=(List.getElem?_eq_some_iff.1 hx).1
  rw [jy hz]
  have:(i+1) *sz≤ls.length *sz:=m9 _ hi
  rw [Nat.add_mul] at this
  omega
theorem eP (t:TypeId) (sz:Nat):row none 0 0 [] t sz fun _=>none:=⟨by simp, .inl ⟨rfl,rfl,rfl⟩⟩
theorem bq {w0:World} {D:Nat→Prop} {L:List HP} {R:HP} {i:Nat} {φ:World→Prop} (H:Own w0 D w L) (hi:L[i]? =some R) (f:∀ w' h,R h→(∀ k o,h k=some o→w'.heap[k]? =some o)→φ w'):φ w:=
  let ⟨h,a,b⟩:=H.get hi
  f w h a b
theorem Fa {L:List HP} {R:HP} {i:Nat} {φ:World→Prop} (hi:L[i]? =some R) (f:∀ w' h,R h→(∀ k o,h k=some o→w'.heap[k]? =some o)→φ w'):∀ w' h,sepL L h→(∀ k o,h k=some o→w'.heap[k]? =some o)→φ w':=fun w' h hs a=>
  let ⟨g,b,d,_⟩:=hs
  f w' (g i) (b i R hi) fun k o hk=>a k o (d i k o hk)
end
section
variable {P:Program} {n:Nat} {F:List (Nat × Value)} {w0 w:World} {D:Nat→Prop} {L:List HP} {ty T:TypeId} {K:Value→World→Prop} {x y:Operand} {t e:TypeId} {xs ys news:List Value}
theorem uu {sz k m c:Nat} {B:Option Addr} (hr:aY w sz B m news) (hk:k≤m):(Builtin.firstCells sz k (.slice B m c)).run P w= .ok (news.take (k *sz)).toArray w:=by
  have hl:(news.take (k *sz)).length=k *sz:=by
    rw [o0,hr.1]
    exact r6 (m9 _ hk)
  rcases B with _ | b
  · have d:m=0:=by
      rcases p2 m with e | e
      · exact e
      · have:=hr.isSome e; cases this
    have a:k=0:=by omega
    subst a
    simp [Builtin.firstCells]
  · refine run_firstCells_some w sz k b m c _ hl fun j v hj=> ?_
    rw [m6] at hj
    split at hj
    · have hm:0 < m:=by
        rcases p2 m with e | e
        · rw [hr.1.trans (by rw [e,Nat.zero_mul]) |> List.eq_nil_of_length_eq_zero] at hj; simp at hj
        · exact e
      have hb:=hr.isSome hm
      injection hb with hb
      rw [hb,add0]
      exact hr.cell hj
    · cases hj
theorem Km {A Ad B:Option Addr} {q c nd cd m cm lo k size bytes:Nat} {tx:TypeId} (el:Elem P t e size bytes) (H:Own w0 D w (row A q c xs e size::L)) (hx:ev F x=some (.slice Ad nd cd)) (hA:0 < nd→Ad=some ⟨ab A,ao A+lo *size,none⟩) (hfit:lo+nd≤q)
    (hy:ev F y=some (.slice B m cm)) (hr:aY w size B m news) (j:∀ u ∈ news,u.oneCell'=true) (hk:min m nd=k) (hys:put xs (lo *size) (news.take (k *size))=ys) (h:∀ w',Own w0 D w' (row A q c ys e size::L)→K (.int .i64 (k:Int)) w'):
    Do P n F w (.call ⟨.builtin .copy, [x,y].toArray, [t,tx].toArray⟩) ty K:=fun a ha o l p next Q hn=>by
  obtain⟨i,z,ht,hi,hz,rfl,rfl,hzs,hsz⟩:=el
  have hfc:=uu (P:=P) (k:=k) (c:=cm) hr e6
  have hlen:(news.take (k *i.size)).length=k *i.size:=by
    rw [o0,hr.1]
    exact r6 (m9 _ e6)
  have hxl:=H.rowLe (i:=0) rfl
  have key:∃ w',(match Ad with | some a=>storeCells a (news.take (k *i.size)) 0 | none=>pure ()).run P w= .ok () w'∧Own w0 D w' (row A q c ys e i.size::L):=by
    rcases p2 k with d | d
    · subst d
      have f:news.take (0 *i.size)= []:=by simp
      rw [f] at hys ⊢
      have:ys=xs:=by rw [← hys]; simp [put]
      subst this
      refine⟨w, ?_,H⟩
      cases Ad <;> rfl
    · have hnd:0 < nd:=by omega
      have hAd:=hA hnd
      subst hAd
      have hpos:0 < (news.take (k *i.size)).length:=by rw [hlen]; exact Nat.mul_pos d hsz
      exact H.storeRow (P:=P) (by rw [List.all_eq_true]; exact fun u hu=>j u (List.mem_of_mem_take hu)) hpos (by
        rw [hlen,hxl.2.2, ← Nat.add_mul]
        exact m9 _ e6) hys
  obtain⟨w',hst,H'⟩:=key
  unfold execOp
  rw [l]
  have hrun:(Builtin.copy_ #[t,tx] o.type #[.slice Ad nd cd, .slice B m cm]).run P w= .ok (.int .i64 (k:Int)) w':=by
    simp only [Builtin.copy_,List.getElem?_toArray,q0,q3,Sem.run_bind,run_underlying ht,Result.andThen_ok,Builtin.lenOf,Sem.run_pure,sizeOf,typeInfo]
    have hmin:Nat.min m nd=k:=hk
    simp [hi,hmin,hfc,Result.andThen]
    cases Ad with
    | none=>
      simp only [Sem.run_pure] at hst
      injection hst with _ hw
      subst hw
      rfl
    | some b=>
      simp only at hst
      simp [hst,Result.andThen,goInt]
  simp only [resolve,invoke,builtin,Sem.run_bind,Sem.run_pure,Result.andThen_ok,List.map_toArray,List.map_cons,List.map_nil,ha.eval hx,ha.eval hy,hrun]
  exact hn _ _ (h w' H')
end
theorem Own.rowTake {w0 w:World} {D:Nat→Prop} {L:List HP} {A:Option Addr} {n k c sz:Nat} {xs ys:List Value} {t:TypeId} (H:Own w0 D w (row A n c xs t sz::L)) (hk:k≤n) (hys:xs.take (k *sz)=ys):Own w0 D w (row A k c ys t sz::L):=
  H.imp fun h ⟨hl,hr⟩=>by
    have e:k *sz≤n *sz:=m9 _ hk
    refine⟨by rw [← hys,o0,hl]; omega, ?_⟩
    rcases hr with ⟨a,b,c⟩ | ⟨g,cur,fz,a,b,c,d,e',f,g'⟩
    · exact .inl ⟨a,e6,c⟩
    · exact .inr ⟨g,cur,fz,a,b,e6,d,e',by rw [← hys, ← f,List.take_take,r6 e],g'⟩
theorem CW {α:Type} {enc:α→List Value} {sz:Nat} (hz:∀ x,(enc x).length=sz) (hp:0 < sz) {z:Value} {x0:α} (b:z.cells.toList=enc x0) (n:Nat):(madeCells z.cells (n *sz)).toList=q4 enc (r7 n x0):=by
  have hs:z.cells.size=sz:=by rw [← Array.length_toList,b,hz]
  apply List.ext_getElem?
  intro j
  by_cases hj:j < n *sz
  · have hd:j / sz < n:=Nat.div_lt_of_lt_mul (by rw [Nat.mul_comm]; exact hj)
    have hm:j % sz < sz:=Nat.mod_lt _ hp
    have e:j=j / sz *sz+j % sz:=by rw [Nat.mul_comm]; exact(Nat.div_add_mod j sz).symm
    have hv:(enc x0)[j % sz]? =some (z.cells[j % sz]' e6):=by
      rw [← b,Array.getElem?_toList]
      exact Array.getElem?_eq_getElem e6
    have a:=wB (enc:=enc) hz (ls:=r7 n x0) (i:=j / sz) (x:=x0) (by rw [List.getElem?_replicate,if_pos hd]) hv
    rw [← e] at a
    rw [a,Array.getElem?_toList]
    have d:j < (madeCells z.cells (n *sz)).size:=by rw [size_madeCells]; exact hj
    rw [Array.getElem?_eq_getElem d]
    simp only [madeCells,Array.getElem_map,Array.getElem_range,hs]
    rw [getElem!_pos z.cells (j % sz) e6]
  · have f:(madeCells z.cells (n *sz)).toList.length≤j:=by rw [Array.length_toList,size_madeCells]; omega
    have a:(q4 enc (r7 n x0)).length≤j:=by rw [jy hz,List.length_replicate]; omega
    rw [r8 f,r8 a]
theorem Jt {P:Program} {n:Nat} {F:List (Nat × Value)} {w0 w:World} {D:Nat→Prop} {L:List HP} {ty t:TypeId} {K:Value→World→Prop} {α:Type} {enc:α→List Value} {x0:α} {k e size bytes:Nat} {lx cx:Operand} {kl kc:IntKind} {z:Value} (hz:∀ x,(enc x).length=size) (hp:0 < size) (a:z.cells.toList=enc x0)
    (ht:P.underlying t=some (.slice e)) (hi:(P.info? e).map (fun i=>(i.zero,i.size,i.bytes))=some (some z,size,bytes)) (H:Own w0 D w L) (hl:ev F lx=some (.int kl (k:Int))) (hc:ev F cx=some (.int kc (k:Int)))
    (hb:bytes *k≤281474976710656) (hm:k≤maxLen) (h:∀ A w',Own w0 D w' (row A k k (q4 enc (r7 k x0)) e size::L)→K (.slice A k k) w'):Do P n F w (.makeSlice t lx cx) ty K:=
  KU ht hi H hl hc hb hm fun A w' H'=>h A w' (by rw [← CW hz hp a]; exact H')
def FD {ι:Type} (φ:ι→Prop) (S:ι→List HP):HP:=fun h=> ∃ i,φ i∧kF (S i) h
theorem Kw {w0 w:World} {D:Nat→Prop} {L:List HP} {ι:Type} {φ:ι→Prop} {S:ι→List HP} (H:Own w0 D w (FD φ S::L)):∃ i,φ i∧Own w0 D w (S i++L):=by
  obtain⟨i,hi⟩:=H.open (S:=fun i: { i // φ i } =>S i.1) fun h ⟨i,a,b⟩=>⟨⟨i,a⟩,b⟩
  exact⟨i.1,i.2,hi⟩
theorem Ky {w0 w:World} {D:Nat→Prop} {L:List HP} {ι:Type} {φ:ι→Prop} {S:ι→List HP} (i:ι) (h:φ i) (H:Own w0 D w (S i++L)):Own w0 D w (FD φ S::L):=
  KP (L1:=S i) H fun _ hs=>⟨i,h,hs⟩
end Go.Proofs.YtbkagebjhbphaaaGreat
