/-
  Regions that draw, in few words: what can be looked up is looked up. Things picked by what moves.
  Conditions: none beyond each law's own.
-/
import Derived.Test.YtbkagebjhbphaaaGreatWiX
import Derived.Test.YtbkagebjhbphaaaGreatKx
namespace Go.Proofs.YtbkagebjhbphaaaGreat
open List renaming any_eq_true→m4,drop→r4,flatMap→q4,getElem?_append_left→u9,getElem?_eq_some_iff→p6,length_append→o2,length_singleton→u3,mem_append_right→u5,mem_cons→u2,nodup_append→u4,take→r3
open Nat renaming beq→l4,eq_of_beq_eq_true→m2
set_option linter.unusedVariables false
set_option linter.unusedSimpArgs false
open Go.RowKit
def mb (k:Nat):List Nat→Bool
  | []=>false
  | j::r=>bif l4 k j then true else mb k r
theorem qD {k:Nat}:∀ {xs:List Nat},mb k xs=true↔k ∈ xs
  | []=>by simp [mb]
  | j::r=>by
    unfold mb
    by_cases e:k=j
    · subst e; simp
    · have:l4 k j=false:=by
        rw [Bool.eq_false_iff]; intro hh; exact e (m2 hh)
      rw [this,cond_false,qD,u2]
      exact⟨.inr,fun h=>h.resolve_left e⟩
def CX (xs:List Nat):Nat→List HP→Option (List HP)
  | _, []=>some []
  | k,R::r=>match CX xs (k+1) r with
    | some q=>bif mb k xs then some q else some (R::q)
    | none=>none
def CY:List HP→List HP→Option (List HP)
  | [],b=>some b
  | R::a,b=>match CY a b with
    | some q=>some (R::q)
    | none=>none
theorem zY:∀ (a b:List HP),CY a b=some (a++b)
  | [],b=>rfl
  | R::a,b=>by simp only [CY,zY a b,List.cons_append]
def px (L:List HP) (f dr b:List Nat):Option (List HP):=match pk L f with
  | some A=>match CX (f++(dr++b)) 0 L with
    | some M=>match pk L b with
      | some B=>match CY M B with
        | some q=>CY A q
        | none=>none
      | none=>none
    | none=>none
  | none=>none
def xK (xs:List Nat):Nat→List HP→List Nat
  | _, []=> []
  | k,_::r=>bif mb k xs then xK xs (k+1) r else k::xK xs (k+1) r
theorem wD {xs:List Nat}:∀ (r:List HP) (k j:Nat),j ∈ xK xs k r→k≤j∧j ∉ xs
  | [],k,j,h=>by cases h
  | R::r,k,j,h=>by
    unfold xK at h
    cases e:mb k xs with
    | true=>rw [e,cond_true] at h; have:=wD r (k+1) j h; exact⟨e6,this.2⟩
    | false=>
      rw [e,cond_false] at h
      rcases u2.1 h with rfl | h
      · exact⟨Nat.le_refl _,fun hm=>by rw [qD.2 hm] at e; cases e⟩
      · have:=wD r (k+1) j h; exact⟨e6,this.2⟩
theorem vG {xs:List Nat}:∀ (r:List HP) (k:Nat),(xK xs k r).Nodup
  | [],k=>List.nodup_nil
  | R::r,k=>by
    unfold xK
    cases e:mb k xs with
    | true=>rw [cond_true]; exact vG r (k+1)
    | false=>
      rw [cond_false,List.nodup_cons]
      exact⟨fun h=>by have:=(wD r (k+1) k h).1; omega,vG r (k+1)⟩
theorem Bw {L:List HP} {i:Nat} {r:List Nat} {R:HP} {s:List HP} (a:L[i]? =some R) (b:pk L r=some s):pk L (i::r)=some (R::s):=by
  unfold pk; rw [a,b]
theorem zZ {L:List HP}:∀ {a b:List Nat} {A B:List HP},pk L a=some A→pk L b=some B→pk L (a++b)=some (A++B)
  | [],b,A,B,c,e=>by simp only [pk,Option.some.injEq] at c; subst c; exact e
  | i::r,b,A,B,c,e=>by
    unfold pk at c
    split at c
    · rename_i R0 s g h
      simp only [Option.some.injEq] at c
      subst c
      exact Bw g (zZ h e)
    · cases c
theorem CZ {xs:List Nat} {L:List HP}:∀ (r pre:List HP) (M:List HP),L=pre++r→CX xs pre.length r=some M→pk L (xK xs pre.length r)=some M
  | [],pre,M,hL,h=>by simp only [CX,Option.some.injEq] at h; subst h; rfl
  | R::r,pre,M,hL,h=>by
    unfold CX at h
    split at h
    · rename_i q hq
      have a:=CZ (L:=L) r (pre++ [R]) q (by rw [hL,List.append_assoc]; rfl) (by rw [o2,u3]; exact hq)
      rw [o2,u3] at a
      unfold xK
      cases e:mb pre.length xs with
      | true=>rw [e,cond_true,Option.some.injEq] at h; subst h; rw [cond_true]; exact a
      | false=>
        rw [e,cond_false,Option.some.injEq] at h; subst h; rw [cond_false]
        exact Bw (by rw [hL,List.getElem?_append_right (Nat.le_refl _),Nat.sub_self]; rfl) a
    · cases h
section
variable {w0 w:World} {D:Nat→Prop} {L:List HP}
theorem Own.px {L':List HP} (H:Own w0 D w L) (f dr b:List Nat) (hn:(f++b).Nodup:=by decide) (hp:px L f dr b=some L':=by exact rfl):Own w0 D w L':=by
  unfold Go.Proofs.YtbkagebjhbphaaaGreat.px at hp
  split at hp
  · rename_i A hA
    split at hp
    · rename_i M hM
      split at hp
      · rename_i B hB
        rw [zY] at hp
        dsimp only at hp
        rw [zY,Option.some.injEq] at hp
        subst hp
        have hi:=wD (xs:=f++(dr++b)) L 0
        rw [u4] at hn
        refine H.pick (f++(xK (f++(dr++b)) 0 L++b)) ?_ (zZ hA (zZ (CZ (pre:= []) L M rfl hM) hB))
        rw [u4,u4]
        refine⟨hn.1,⟨vG _ _,hn.2.1,fun x hx y hy e=>(hi x hx).2 ?_⟩,fun x hx y hy e=> ?_⟩
        · subst e; exact u5 _ (u5 _ hy)
        · subst e
          rcases List.mem_append.1 hy with h | h
          · exact(hi x h).2 (List.mem_append_left _ hx)
          · exact hn.2.2 x hx x h rfl
      · cases hp
    · cases hp
  · cases hp
theorem Own.pf {L':List HP} (H:Own w0 D w L) (f:List Nat) (hn:(f++ []).Nodup:=by decide) (hp:Go.Proofs.YtbkagebjhbphaaaGreat.px L f [] []=some L':=by exact rfl):Own w0 D w L':=H.px f [] [] hn hp
theorem Own.pb {L':List HP} (H:Own w0 D w L) (b:List Nat) (hn:([]++b).Nodup:=by decide) (hp:Go.Proofs.YtbkagebjhbphaaaGreat.px L [] [] b=some L':=by exact rfl):Own w0 D w L':=H.px [] [] b hn hp
end
theorem D9 {R S:HP} (a:R fun _=>none) (b:S fun _=>none):∀ T ∈ [R,S],T fun _=>none:=fun T h=>by
  rcases u2.1 h with rfl | h
  · exact a
  · rw [List.mem_singleton.1 h]; exact b
section
variable {α:Type} {w0 w:World} {D:Nat→Prop} {L:List HP} {f:α→List HP}
theorem wY {ds:List α} {i:Nat} {x:α} (y:α) (hx:ds[i]? =some x):y ∈ List.set ds i y:=by rw [zW y hx]; exact u5 _ b1
theorem KG {ds:List α} {i:Nat} {x:α} (a:HP) (e:f x= [a]) (hx:ds[i]? =some x) (H:Own w0 D w (sepL (q4 f ds)::L)):Own w0 D w (a::sepL (q4 f (r3 i ds)++q4 f (r4 (i+1) ds))::L):=by have h:=Jm (f:=f) hx H; rwa [e] at h
theorem J5 {ds:List α} {i:Nat} {x:α} (a b:HP) (e:f x= [a,b]) (hx:ds[i]? =some x) (H:Own w0 D w (sepL (q4 f ds)::L)):Own w0 D w (a::b::sepL (q4 f (r3 i ds)++q4 f (r4 (i+1) ds))::L):=by have h:=Jm (f:=f) hx H; rwa [e] at h
theorem J6 {ds:List α} {i:Nat} {x:α} (a b c d g k:HP) (e:f x= [a,b,c,d,g,k]) (hx:ds[i]? =some x) (H:Own w0 D w (sepL (q4 f ds)::L)):Own w0 D w (a::b::c::d::g::k::sepL (q4 f (r3 i ds)++q4 f (r4 (i+1) ds))::L):=by have h:=Jm (f:=f) hx H; rwa [e] at h
theorem qX {ds:List α} {i:Nat} {x:α} (hx:ds[i]? =some x) (H:Own w0 D w (f x++(sepL (q4 f (r3 i ds)++q4 f (r4 (i+1) ds))::L))):Own w0 D w (sepL (q4 f ds)::L):=by
  have h:=Je (f:=f) (y:=x) hx H
  have e:List.set ds i x=ds:=by
    obtain⟨a,b⟩:=p6.1 hx
    rw [← b]; exact List.set_getElem_self a
  rwa [e] at h
theorem Jf {R0 R1 R2 R3:HP} (H:Own w0 D w (R0::R1::R2::R3::L)):∃ a:Nat→Prop,Own w a w [R0,R1,R2,R3]∧(∀ φ,Ro w0 D φ→Ro w a φ)∧(∀ w' L',Own w a w' L'→Own w0 D w' (L'++L))∧(∀ (φ:World→Prop) (i:Nat) (R:HP),L[i]? =some R→(∀ w' h,R h→(∀ k o,h k=some o→w'.heap[k]? =some o)→φ w')→Ro w a φ):=Own.enter (L1:= [R0,R1,R2,R3]) (L2:=L) H
theorem KA {R0 R1 R2 R3 R4:HP} (H:Own w0 D w (R0::R1::R2::R3::R4::L)):∃ a:Nat→Prop,Own w a w [R0,R1,R2,R3,R4]∧(∀ φ,Ro w0 D φ→Ro w a φ)∧(∀ w' L',Own w a w' L'→Own w0 D w' (L'++L))∧(∀ (φ:World→Prop) (i:Nat) (R:HP),L[i]? =some R→(∀ w' h,R h→(∀ k o,h k=some o→w'.heap[k]? =some o)→φ w')→Ro w a φ):=Own.enter (L1:= [R0,R1,R2,R3,R4]) (L2:=L) H
theorem KC {R0 R1 R2 R3 R4 R5:HP} (H:Own w0 D w (R0::R1::R2::R3::R4::R5::L)):∃ a:Nat→Prop,Own w a w [R0,R1,R2,R3,R4,R5]∧(∀ φ,Ro w0 D φ→Ro w a φ)∧(∀ w' L',Own w a w' L'→Own w0 D w' (L'++L))∧(∀ (φ:World→Prop) (i:Nat) (R:HP),L[i]? =some R→(∀ w' h,R h→(∀ k o,h k=some o→w'.heap[k]? =some o)→φ w')→Ro w a φ):=Own.enter (L1:= [R0,R1,R2,R3,R4,R5]) (L2:=L) H
theorem Jj {R0 R1 R2 R3 R4 R5 j m p q a b c e:HP} (H:Own w0 D w (R0::R1::R2::R3::R4::R5::j::m::p::q::a::b::c::e::L)):∃ g:Nat→Prop,Own w g w [R0,R1,R2,R3,R4,R5,j,m,p,q,a,b,c,e]∧(∀ φ,Ro w0 D φ→Ro w g φ)∧(∀ w' L',Own w g w' L'→Own w0 D w' (L'++L))∧(∀ (φ:World→Prop) (i:Nat) (R:HP),L[i]? =some R→(∀ w' h,R h→(∀ k o,h k=some o→w'.heap[k]? =some o)→φ w')→Ro w g φ):=Own.enter (L1:= [R0,R1,R2,R3,R4,R5,j,m,p,q,a,b,c,e]) (L2:=L) H
theorem JH {R0 R1 R2 R3 R4 R5 p q r s a b c e g j:HP} (H:Own w0 D w (R0::R1::R2::R3::R4::R5::p::q::r::s::a::b::c::e::g::j::L)):∃ m:Nat→Prop,Own w m w [R0,R1,R2,R3,R4,R5,p,q,r,s,a,b,c,e,g,j]∧(∀ φ,Ro w0 D φ→Ro w m φ)∧(∀ w' L',Own w m w' L'→Own w0 D w' (L'++L))∧(∀ (φ:World→Prop) (i:Nat) (R:HP),L[i]? =some R→(∀ w' h,R h→(∀ k o,h k=some o→w'.heap[k]? =some o)→φ w')→Ro w m φ):=Own.enter (L1:= [R0,R1,R2,R3,R4,R5,p,q,r,s,a,b,c,e,g,j]) (L2:=L) H
theorem JU {R0 R1 R2 R3 R4 R5 t u y z a b c e g j m p q r:HP} (H:Own w0 D w (R0::R1::R2::R3::R4::R5::t::u::y::z::a::b::c::e::g::j::m::p::q::r::L)):∃ s:Nat→Prop,Own w s w [R0,R1,R2,R3,R4,R5,t,u,y,z,a,b,c,e,g,j,m,p,q,r]∧(∀ φ,Ro w0 D φ→Ro w s φ)∧(∀ w' L',Own w s w' L'→Own w0 D w' (L'++L))∧(∀ (φ:World→Prop) (i:Nat) (R:HP),L[i]? =some R→(∀ w' h,R h→(∀ k o,h k=some o→w'.heap[k]? =some o)→φ w')→Ro w s φ):=Own.enter (L1:= [R0,R1,R2,R3,R4,R5,t,u,y,z,a,b,c,e,g,j,m,p,q,r]) (L2:=L) H
theorem Jd {R0 R1 R2 R3 R4 R5 u y z A a b c e g j m p q r s:HP} (H:Own w0 D w (R0::R1::R2::R3::R4::R5::u::y::z::A::a::b::c::e::g::j::m::p::q::r::s::L)):∃ t:Nat→Prop,Own w t w [R0,R1,R2,R3,R4,R5,u,y,z,A,a,b,c,e,g,j,m,p,q,r,s]∧(∀ φ,Ro w0 D φ→Ro w t φ)∧(∀ w' L',Own w t w' L'→Own w0 D w' (L'++L))∧(∀ (φ:World→Prop) (i:Nat) (R:HP),L[i]? =some R→(∀ w' h,R h→(∀ k o,h k=some o→w'.heap[k]? =some o)→φ w')→Ro w t φ):=Own.enter (L1:= [R0,R1,R2,R3,R4,R5,u,y,z,A,a,b,c,e,g,j,m,p,q,r,s]) (L2:=L) H
theorem Jc {A:Option Addr} {n n' c:Nat} {xs:List Value} {t:TypeId} {sz:Nat} (e:n=n') (H:Own w0 D w (row A n c xs t sz::L)):Own w0 D w (row A n' c xs t sz::L):=e ▸ H
def C8:List Value→Nat→Value→Option (List Value)
  | [],_,_=>none
  | _::r,0,v=>some (v::r)
  | x::r,o+1,v=>match C8 r o v with
    | some q=>some (x::q)
    | none=>none
theorem C9:∀ {cs:List Value} {o:Nat} {v:Value} {q:List Value},cs[o]? =some v→C8 cs o v=some q→q=cs
  | [],o,v,q,b,a=>by cases a
  | x::r,0,v,q,b,a=>by
    simp only [List.getElem?_cons_zero,Option.some.injEq] at b
    simp only [C8,Option.some.injEq] at a
    rw [← a,b]
  | x::r,o+1,v,q,b,a=>by
    simp only [List.getElem?_cons_succ] at b
    unfold C8 at a
    split at a
    · rename_i q' hq
      simp only [Option.some.injEq] at a
      rw [← a,C9 b hq]
    · cases a
theorem Jp {g:Nat} {cs cs':List Value} {t:TypeId} {A:Option Addr} {n n' c:Nat} (o:Nat) (e:n=n') (H:Own w0 D w (blk g cs t::L)) (a:cs[o]? =some (.slice A n c):=by exact rfl) (b:C8 cs o (.slice A n' c)=some cs':=by exact rfl):Own w0 D w (blk g cs' t::L):=by
  subst e; rw [C9 a b]; exact H
end
def Bz:List Nat→List Value→Option (List (Nat × Value))
  | _, []=>some []
  | [],_::_=>none
  | k::ks,v::r=>match Bz ks r with
    | some q=>some ((k,v)::q)
    | none=>none
theorem Da:∀ (l:List Value) (k:Nat) (ks:List Nat) (F:List (Nat × Value)),(∀ i j:Nat,ks[i]? =some j→j=k+i)→Bz ks l=some F→Bt k l=F
  | [],k,ks,F,h,e=>by cases ks <;> (simp only [Bz,Option.some.injEq] at e; subst e; rfl)
  | v::r,k, [],F,h,e=>by simp only [Bz] at e; cases e
  | v::r,k,j::ks,F,h,e=>by
    unfold Bz at e
    split at e
    · rename_i q hq
      simp only [Option.some.injEq] at e
      have a:=h 0 j rfl
      have:=Da r (k+1) ks q (fun i j hj=>by have:=h (i+1) j hj; omega) hq
      rw [← e]
      unfold Bt
      rw [this,a]; rfl
    · cases e
def nums:List Nat:= [0,1,2,3,4,5,6,7,8,9,10,11,12,13,14,15,16,17,18,19]
theorem Fe:∀ i j:Nat,nums[i]? =some j→j=0+i:=by
  intro i j h
  have hi:=(p6.1 h).1
  have hl:nums.length=20:=rfl
  rw [hl] at hi
  have:∀ i:Nat,i < 20→nums[i]? =some i:=by decide
  rw [this i hi,Option.some.injEq] at h
  omega
theorem cb {P:Program} {n:Nat} {w:World} {f:FuncId} {fn:Func} {c:Code} {args:List Value} {G:List (Nat × Value)} {R:Ending→World→Prop} (hf:P.funcs[f]? =some fn) (h:Wp P c n G w (bodyPost P fn R)) (hb:fn.body=some c:=by exact rfl) (hn:fn.ntmps=n:=by exact rfl) (hl:Nat.ble args.length n=true:=by exact rfl)
    (hG:Bz nums args=some G:=by exact rfl):Calls P f args.toArray w R:=Kv hf hb hn hl (by rw [Da args 0 nums G Fe hG]; exact h)
abbrev vU (n:Nat):Value:= .int .u64 ((n:Nat):Int)
abbrev vJ (n:Nat):Value:= .int .i64 ((n:Nat):Int)
abbrev vI (x:Int):Value:= .int .i64 x
abbrev vP (g o:Nat):Value:= .pointer (some ⟨g,o,none⟩)
theorem lF {a:Type} (B:a→World→Prop):∃ q:(a)→World→Prop, ∀ {b:a} {w':World},q b w'↔B b w':=⟨fun x w'=>B x w',Iff.rfl⟩
theorem FI {a b:Type} (B:a→b→World→Prop):∃ q:(a × b)→World→Prop, ∀ {c:a} {e:b} {w':World},q (c,e) w'↔B c e w':=⟨fun x w'=>B x.1 x.2 w',Iff.rfl⟩
theorem rJ {a b c:Type} (B:a→b→c→World→Prop):∃ q:(a × b × c)→World→Prop, ∀ {e:a} {g:b} {h:c} {w':World},q (e,g,h) w'↔B e g h w':=⟨fun x w'=>B x.1 x.2.1 x.2.2 w',Iff.rfl⟩
theorem tq {a b c e:Type} (B:a→b→c→e→World→Prop):∃ q:(a × b × c × e)→World→Prop, ∀ {g:a} {h:b} {j:c} {k:e} {w':World},q (g,h,j,k) w'↔B g h j k w':=⟨fun x w'=>B x.1 x.2.1 x.2.2.1 x.2.2.2 w',Iff.rfl⟩
theorem ED {a b c e g:Type} (B:a→b→c→e→g→World→Prop):∃ q:(a × b × c × e × g)→World→Prop, ∀ {h:a} {j:b} {k:c} {m:e} {o:g} {w':World},q (h,j,k,m,o) w'↔B h j k m o w':=⟨fun x w'=>B x.1 x.2.1 x.2.2.1 x.2.2.2.1 x.2.2.2.2 w',Iff.rfl⟩
theorem G8 {a b c e g h:Type} (B:a→b→c→e→g→h→World→Prop):∃ q:(a × b × c × e × g × h)→World→Prop, ∀ {j:a} {k:b} {m:c} {o:e} {p:g} {r:h} {w':World},q (j,k,m,o,p,r) w'↔B j k m o p r w':=⟨fun x w'=>B x.1 x.2.1 x.2.2.1 x.2.2.2.1 x.2.2.2.2.1 x.2.2.2.2.2 w',Iff.rfl⟩
theorem FJ {a b c e g h j:Type} (B:a→b→c→e→g→h→j→World→Prop):∃ q:(a × b × c × e × g × h × j)→World→Prop, ∀ {k:a} {m:b} {o:c} {p:e} {r:g} {s:h} {t:j} {w':World},q (k,m,o,p,r,s,t) w'↔B k m o p r s t w':=⟨fun x w'=>B x.1 x.2.1 x.2.2.1 x.2.2.2.1 x.2.2.2.2.1 x.2.2.2.2.2.1 x.2.2.2.2.2.2 w',Iff.rfl⟩
theorem Hu {T U V W X Y Z T7 T8 T9 a b c e g h j k m o p r s t u:Type} (B:T→U→V→W→X→Y→Z→T7→T8→T9→a→b→c→e→g→h→j→k→m→o→p→r→s→t→u→World→Prop):∃ q:(T × U × V × W × X × Y × Z × T7 × T8 × T9 × a × b × c × e × g × h × j × k × m × o × p × r × s × t × u)→World→Prop, ∀ {a0:T} {a1:U} {a2:V} {a3:W} {a4:X} {a5:Y} {a6:Z} {a7:T7} {a8:T8} {a9:T9} {y:a} {z:b} {A:c} {C:e} {E:g} {G:h} {H:j} {I:k} {J:m} {K:o} {M:p} {N:r} {O:s} {R:t} {S:u} {w':World},q (a0,a1,a2,a3,a4,a5,a6,a7,a8,a9,y,z,A,C,E,G,H,I,J,K,M,N,O,R,S) w'↔B a0 a1 a2 a3 a4 a5 a6 a7 a8 a9 y z A C E G H I J K M N O R S w':=⟨fun x w'=>B x.1 x.2.1 x.2.2.1 x.2.2.2.1 x.2.2.2.2.1 x.2.2.2.2.2.1 x.2.2.2.2.2.2.1 x.2.2.2.2.2.2.2.1 x.2.2.2.2.2.2.2.2.1 x.2.2.2.2.2.2.2.2.2.1 x.2.2.2.2.2.2.2.2.2.2.1 x.2.2.2.2.2.2.2.2.2.2.2.1 x.2.2.2.2.2.2.2.2.2.2.2.2.1 x.2.2.2.2.2.2.2.2.2.2.2.2.2.1 x.2.2.2.2.2.2.2.2.2.2.2.2.2.2.1 x.2.2.2.2.2.2.2.2.2.2.2.2.2.2.2.1 x.2.2.2.2.2.2.2.2.2.2.2.2.2.2.2.2.1 x.2.2.2.2.2.2.2.2.2.2.2.2.2.2.2.2.2.1 x.2.2.2.2.2.2.2.2.2.2.2.2.2.2.2.2.2.2.1 x.2.2.2.2.2.2.2.2.2.2.2.2.2.2.2.2.2.2.2.1 x.2.2.2.2.2.2.2.2.2.2.2.2.2.2.2.2.2.2.2.2.1 x.2.2.2.2.2.2.2.2.2.2.2.2.2.2.2.2.2.2.2.2.2.1 x.2.2.2.2.2.2.2.2.2.2.2.2.2.2.2.2.2.2.2.2.2.2.1 x.2.2.2.2.2.2.2.2.2.2.2.2.2.2.2.2.2.2.2.2.2.2.2.1 x.2.2.2.2.2.2.2.2.2.2.2.2.2.2.2.2.2.2.2.2.2.2.2.2 w',Iff.rfl⟩
def FK (ops:Array Oper) (k:Nat) (ok:Nat→Bool):Bool:=(ops[k]?).any fun o=>o.after.toList.any fun e=>Region.binds .any e && ok e.on
def EE (ops:Array Oper) (i:Nat):List Nat→List Nat→List Nat
  | [],a=>a
  | k::r,a=>EE ops i r (bif FK ops k (fun j=>l4 j i || mb j a) then k::a else a)
theorem BA {ops:Array Oper} {i:Nat}:∀ (ks a:List Nat),(∀ k ∈ a, ∃ r,way ops i k r=true)→∀ k ∈ EE ops i ks a, ∃ r,way ops i k r=true
  | [],a,h=>h
  | k::r,a,h=>by
    unfold EE
    refine BA r _ ?_
    cases e:FK ops k (fun j=>l4 j i || mb j a) with
    | false=>rw [cond_false]; exact h
    | true=>
      rw [cond_true]
      intro q hq
      rcases u2.1 hq with rfl | hq
      · unfold FK at e
        rw [Option.any_eq_true] at e
        obtain⟨o,ho,e⟩:=e
        rw [m4] at e
        obtain⟨x,hx,e⟩:=e
        rw [Bool.and_eq_true,Bool.or_eq_true] at e
        rcases e.2 with b | b
        · refine⟨[], ?_⟩
          unfold way
          rw [ho,Option.any_some,m4]
          exact⟨x,hx,by rw [e.1,m2 b]; simp⟩
        · obtain⟨c,g⟩:=h _ (qD.1 b)
          refine⟨x.on::c, ?_⟩
          unfold way
          rw [ho,Option.any_some,g,Bool.and_true,m4]
          exact⟨x,hx,by rw [e.1]; simp⟩
      · exact h q hq
def FL:Nat→Nat→List Nat
  | _,0=> []
  | k,m+1=>k::FL (k+1) m
def tu (ops:Array Oper) (ks:List Nat) (i:Nat) (l:List Nat) (d n:Nat):Bool:=
  Region.free .any ops (j3 ops.size l) i && (Region.ready .any ops (j3 ops.size l)).contains i && ks.all (fun k=>mb k (EE ops i (FL 0 ops.size) []) && !(k==i)) && Nat.blt d n
theorem BB {ops:Array Oper} {i:Nat} {a:List Nat} (h:∀ k ∈ a, ∃ r,way ops i k r=true):∀ ks:List Nat,ks.all (fun k=>mb k a && !(k==i))=true→∃ rs,ways ops i ks rs=true
  | [],_=>⟨[],rfl⟩
  | k::ks,hk=>by
    rw [List.all_cons,Bool.and_eq_true,Bool.and_eq_true] at hk
    obtain⟨rs,b⟩:=BB h ks hk.2
    obtain⟨r,c⟩:=h k (qD.1 hk.1.1)
    refine⟨r::rs, ?_⟩
    unfold ways
    rw [c,hk.1.2,b]; rfl
theorem FM {ops:Array Oper} {ks:List Nat} {i:Nat} {l:List Nat} {d n:Nat} (h:tu ops ks i l d n=true):∃ rs,tk ops ks rs i l d n=true:=by
  simp only [tu,Bool.and_eq_true] at h
  obtain⟨rs,hr⟩:=BB (BA (ops:=ops) (i:=i) (FL 0 ops.size) [] (fun k hk=>by cases hk)) ks h.1.2
  refine⟨rs, ?_⟩
  simp only [tk,Bool.and_eq_true]
  exact⟨⟨⟨h.1.1.1,h.1.1.2⟩,hr⟩,h.2⟩
def Aa:Nat→List HP→Option (List HP × List HP)
  | 0,l=>some ([],l)
  | _+1, []=>none
  | k+1,R::r=>match Aa k r with
    | some (a,b)=>some (R::a,b)
    | none=>none
theorem xL:∀ (k:Nat) (l a b:List HP),Aa k l=some (a,b)→l=a++b
  | 0,l,a,b,h=>by simp only [Aa,Option.some.injEq,Prod.mk.injEq] at h; obtain⟨rfl,rfl⟩:=h; rfl
  | k+1, [],a,b,h=>by cases h
  | k+1,R::r,a,b,h=>by
    unfold Aa at h
    split at h
    · rename_i a' b' hq
      simp only [Option.some.injEq,Prod.mk.injEq] at h
      obtain⟨rfl,rfl⟩:=h
      rw [xL k r a' b' hq]; rfl
    · cases h
section
variable {P:Program} {ops:Array Oper} {Q:Exit→Act→World→Prop} {ks:List Nat} {Good:World→Prop} {n:Nat} {F:List (Nat × Value)} {w w0:World} {D:Nat→Prop} {L:List HP} {op:Op} {ty:TypeId} {v:Value} {fuel:Nat} {l:List Nat} {pos:String} {aft:Array Edge} {d:Nat} {x:Operand}
theorem qt (i:Nat) (hi:ops[i]? =some ⟨some d,op,ty,pos,aft,none⟩) (hy:∀ W,Good W→Yl P n F W op ty v) (h:GX P ops Q ks Good fuel (i::l) n ((d,v)::F) w) (hk:tu ops ks i l d n=true:=by kernel_rfl):GX P ops Q ks Good (fuel+1) l n F w:=
  let ⟨rs,hr⟩:=FM hk
  GX.take (rs:=rs) i hi hr hy h
theorem qv (i:Nat) (hi:ops[i]? =some ⟨some d, .move x,ty,pos,aft,none⟩) (hx:ev F x=some v) (h:GX P ops Q ks Good fuel (i::l) n ((d,v)::F) w) (hk:tu ops ks i l d n=true:=by kernel_rfl):GX P ops Q ks Good (fuel+1) l n F w:=
  qt i hi (fun _ _=>IA hx) h hk
theorem qa (i:Nat) (hi:ops[i]? =some ⟨some d, .assign x,ty,pos,aft,none⟩) (hx:ev F x=some v) (h:GX P ops Q ks Good fuel (i::l) n ((d,v)::F) w) (hk:tu ops ks i l d n=true:=by kernel_rfl):GX P ops Q ks Good (fuel+1) l n F w:=
  qt i hi (fun _ _=>Jv hx) h hk
theorem qk (v:Value) (i:Nat) (hi:ops[i]? =some ⟨some d,op,ty,pos,aft,none⟩) (h:GX P ops Q ks Good fuel (i::l) n ((d,v)::F) w) (hk:tu ops ks i l d n=true:=by kernel_rfl) (a:known F op.operands.toList=true:=by exact rfl) (hs:pI op=true:=by exact rfl)
    (hr:∀ W,(execOp (og F) ⟨none,op,ty, "", #[],none⟩).run P W= .ok (.value v) W:=by intro _; kernel_rfl):GX P ops Q ks Good (fuel+1) l n F w:=qt i hi (fun _ _=>JI a hs hr) h hk
theorem qp (g o:Nat) (i:Nat) (hi:ops[i]? =some ⟨some d,op,ty,pos,aft,none⟩) (h:GX P ops Q ks Good fuel (i::l) n ((d, .pointer (some ⟨g,o,none⟩))::F) w) (hk:tu ops ks i l d n=true:=by kernel_rfl) (a:known F op.operands.toList=true:=by exact rfl) (hs:pI op=true:=by exact rfl)
    (hr:∀ W,(execOp (og F) ⟨none,op,ty, "", #[],none⟩).run P W= .ok (.value (.pointer (some ⟨g,o,none⟩))) W:=by intro _; kernel_rfl):GX P ops Q ks Good (fuel+1) l n F w:=qt i hi (fun _ _=>JI a hs hr) h hk
theorem ql {T:TypeId} {g o:Nat} {cs:List Value} {t:TypeId} (i:Nat) (hi:ops[i]? =some ⟨some d, .load T x,ty,pos,aft,none⟩) (j:Nat) (ha:∀ W,(isAgg T).run P W= .ok false W) (hj:L[j]? =some (blk g cs t)) (hx:ev F x=some (.pointer (some ⟨g,o,none⟩))) (hv:cs[o]? =some v)
    (h:GX P ops Q ks (fun W=> ∃ L',Own w0 D W (L++L')) fuel (i::l) n ((d,v)::F) w) (hk:tu ops ks i l d n=true:=by kernel_rfl):GX P ops Q ks (fun W=> ∃ L',Own w0 D W (L++L')) (fuel+1) l n F w:=
  qt i hi (fun _ ⟨L',H⟩=>IB hx (bJ.one ha (I1 (H.cls (i:=j) (by rw [u9 (p6.1 hj).1]; exact hj)) hv))) h hk
theorem qb {T:TypeId} {g m:Nat} {cs:List Value} {t:TypeId} (i:Nat) (hi:ops[i]? =some ⟨some d, .load T x,ty,pos,aft,none⟩) (j:Nat) (ha:∀ W,(isAgg T).run P W= .ok true W) (hS:∀ W,(sizeOf T).run P W= .ok m W) (hj:L[j]? =some (blk g cs t)) (hx:ev F x=some (.pointer (some ⟨g,0,none⟩))) (hm:cs.length=m)
    (h:GX P ops Q ks (fun W=> ∃ L',Own w0 D W (L++L')) fuel (i::l) n ((d, .agg cs.toArray)::F) w) (hk:tu ops ks i l d n=true:=by kernel_rfl):GX P ops Q ks (fun W=> ∃ L',Own w0 D W (L++L')) (fuel+1) l n F w:=
  qt i hi (fun _ ⟨L',H⟩=>IB hx (IJ ha (by rw [hm]; exact hS) (H.cls (i:=j) (by rw [u9 (p6.1 hj).1]; exact hj)))) h hk
theorem qd (i:Nat) (hi:ops[i]? =some ⟨some d,op,ty,pos,aft,none⟩)
    (h:Do P n F w op ty fun v w'=>(ks.any (fun k=>(j3 ops.size (i::l)).getD k false)=true∨Good w')∧GX P ops Q ks Good fuel (i::l) n ((d,v)::F) w') (hk:(dx ops i l && Nat.blt d n)=true:=by kernel_rfl):GX P ops Q ks Good (fuel+1) l n F w:=GX.do i hi hk h
theorem qe (i:Nat) (hi:ops[i]? =some ⟨none,op,ty,pos,aft,none⟩)
    (h:Do P n F w op ty fun _ w'=>(ks.any (fun k=>(j3 ops.size (i::l)).getD k false)=true∨Good w')∧GX P ops Q ks Good fuel (i::l) n F w') (hk:dx ops i l=true:=by kernel_rfl):GX P ops Q ks Good (fuel+1) l n F w:=KZ i hi hk h
theorem qn (h:Fin Q .normal n F w) (hk:(Region.ready .any ops (j3 ops.size l)).isEmpty=true:=by kernel_rfl):GX P ops Q ks Good fuel l n F w:=KV hk h
theorem yV {i:Nat} {lo:List Oper} (A:List HP) (ks:List Nat) (H:Own w0 D w (A++L)) (hQ:bv Q) (h:∀ w',Own w0 D w' (A++L)→GX P lo.toArray Q ks (fun W=> ∃ L',Own w0 D W (A++L')) lo.length [] n F w')
    (hm:P.follows .mixedOrders=true) (hns:Region.noSelect lo.toArray=true):Wp P (.region i lo.toArray true) n F w Q:=Jr ks _ hm hns hQ ⟨_,H.drew⟩ (h _ H.drew)
variable {R0 R1 R2 R3 R4 R5:HP} {i:Nat} {lo:List Oper}
theorem G9 (ks:List Nat) (hQ:bv Q) (H:Own w0 D w L) (h:∀ w',Own w0 D w' L→GX P lo.toArray Q ks (fun W=> ∃ L',Own w0 D W ([]++L')) lo.length [] n F w')
    (hm:P.follows .mixedOrders=true:=by kernel_rfl) (hns:Region.noSelect lo.toArray=true:=by kernel_rfl):Wp P (.region i lo.toArray true) n F w Q:=yV [] ks H hQ h hm hns
theorem vo (ks:List Nat) (hQ:bv Q) (H:Own w0 D w (R0::L)) (h:∀ w',Own w0 D w' (R0::L)→GX P lo.toArray Q ks (fun W=> ∃ L',Own w0 D W ([R0]++L')) lo.length [] n F w')
    (hm:P.follows .mixedOrders=true:=by kernel_rfl) (hns:Region.noSelect lo.toArray=true:=by kernel_rfl):Wp P (.region i lo.toArray true) n F w Q:=yV [R0] ks H hQ h hm hns
theorem pM (ks:List Nat) (hQ:bv Q) (H:Own w0 D w (R0::R1::L)) (h:∀ w',Own w0 D w' (R0::R1::L)→GX P lo.toArray Q ks (fun W=> ∃ L',Own w0 D W ([R0,R1]++L')) lo.length [] n F w')
    (hm:P.follows .mixedOrders=true:=by kernel_rfl) (hns:Region.noSelect lo.toArray=true:=by kernel_rfl):Wp P (.region i lo.toArray true) n F w Q:=yV [R0,R1] ks H hQ h hm hns
theorem EF (ks:List Nat) (hQ:bv Q) (H:Own w0 D w (R0::R1::R2::L)) (h:∀ w',Own w0 D w' (R0::R1::R2::L)→GX P lo.toArray Q ks (fun W=> ∃ L',Own w0 D W ([R0,R1,R2]++L')) lo.length [] n F w')
    (hm:P.follows .mixedOrders=true:=by kernel_rfl) (hns:Region.noSelect lo.toArray=true:=by kernel_rfl):Wp P (.region i lo.toArray true) n F w Q:=yV [R0,R1,R2] ks H hQ h hm hns
theorem Db (ks:List Nat) (hQ:bv Q) (H:Own w0 D w (R0::R1::R2::R3::L)) (h:∀ w',Own w0 D w' (R0::R1::R2::R3::L)→GX P lo.toArray Q ks (fun W=> ∃ L',Own w0 D W ([R0,R1,R2,R3]++L')) lo.length [] n F w')
    (hm:P.follows .mixedOrders=true:=by kernel_rfl) (hns:Region.noSelect lo.toArray=true:=by kernel_rfl):Wp P (.region i lo.toArray true) n F w Q:=yV [R0,R1,R2,R3] ks H hQ h hm hns
theorem Ia (ks:List Nat) (hQ:bv Q) (H:Own w0 D w (R0::R1::R2::R3::R4::L)) (h:∀ w',Own w0 D w' (R0::R1::R2::R3::R4::L)→GX P lo.toArray Q ks (fun W=> ∃ L',Own w0 D W ([R0,R1,R2,R3,R4]++L')) lo.length [] n F w')
    (hm:P.follows .mixedOrders=true:=by kernel_rfl) (hns:Region.noSelect lo.toArray=true:=by kernel_rfl):Wp P (.region i lo.toArray true) n F w Q:=yV [R0,R1,R2,R3,R4] ks H hQ h hm hns
theorem Ha (ks:List Nat) (hQ:bv Q) (H:Own w0 D w (R0::R1::R2::R3::R4::R5::L)) (h:∀ w',Own w0 D w' (R0::R1::R2::R3::R4::R5::L)→GX P lo.toArray Q ks (fun W=> ∃ L',Own w0 D W ([R0,R1,R2,R3,R4,R5]++L')) lo.length [] n F w')
    (hm:P.follows .mixedOrders=true:=by kernel_rfl) (hns:Region.noSelect lo.toArray=true:=by kernel_rfl):Wp P (.region i lo.toArray true) n F w Q:=yV [R0,R1,R2,R3,R4,R5] ks H hQ h hm hns
theorem oV {A B:List HP} (k:Nat) (ks:List Nat) (hQ:bv Q) (H:Own w0 D w L) (h:∀ w',Own w0 D w' L→GX P lo.toArray Q ks (fun W=> ∃ L',Own w0 D W (A++L')) lo.length [] n F w') (hA:Aa k L=some (A,B):=by exact rfl)
    (hm:P.follows .mixedOrders=true:=by kernel_rfl) (hns:Region.noSelect lo.toArray=true:=by kernel_rfl):Wp P (.region i lo.toArray true) n F w Q:=by
  have e:=xL k L A B hA
  subst e
  exact yV A ks H hQ h hm hns
theorem Ib (H:Own w0 D w (R0::L)) (h:GX P ops Q ks (fun W=> ∃ L',Own w0 D W ([R0]++L')) fuel l n F w):GX P ops Q ks (fun W=> ∃ L',Own w0 D W ([]++L')) fuel l n F w:=
  JZ (fun _ ⟨L',h⟩=>⟨[R0]++L',h⟩) ⟨_,H⟩ h
theorem BC (H:Own w0 D w (R0::R1::R2::L)) (h:GX P ops Q ks (fun W=> ∃ L',Own w0 D W ([R0,R1,R2]++L')) fuel l n F w):GX P ops Q ks (fun W=> ∃ L',Own w0 D W ([R0,R1]++L')) fuel l n F w:=
  JZ (fun _ ⟨L',h⟩=>⟨[R2]++L',h⟩) ⟨_,H⟩ h
theorem Ic (H:Own w0 D w (R0::R1::R2::R3::L)) (h:GX P ops Q ks (fun W=> ∃ L',Own w0 D W ([R0,R1,R2,R3]++L')) fuel l n F w):GX P ops Q ks (fun W=> ∃ L',Own w0 D W ([R0,R1,R2]++L')) fuel l n F w:=
  JZ (fun _ ⟨L',h⟩=>⟨[R3]++L',h⟩) ⟨_,H⟩ h
end
end Go.Proofs.YtbkagebjhbphaaaGreat
