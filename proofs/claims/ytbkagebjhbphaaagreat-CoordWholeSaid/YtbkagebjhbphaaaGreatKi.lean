/-
  Several effects that may come in any order, each of which leaves the others alone: told once.
  Conditions: none beyond each law's own.
-/
import Derived.Test.YtbkagebjhbphaaaGreatKt
namespace Go.Proofs.YtbkagebjhbphaaaGreat
open List renaming all_eq_true→s9,append_assoc→q5,length_append→o2,length_cons→s1,length_eq_zero_iff→v4,map→s5,map_append→v2,mem_append→v3,mem_append_left→s2,mem_append_right→u5,mem_cons→u2,mem_map→v1,perm_append_comm→v0
open Nat renaming beq→l4,eq_of_beq_eq_true→m2
set_option linter.unusedVariables false
set_option linter.unusedSimpArgs false
open Go.RowKit
structure Eff where
  i:Nat
  d:Nat
  op:Op
  ty:TypeId
  pos:String
  aft:Array Edge
  γ:Type
  v:γ→Value
  p:γ→Prop
  R:γ→List HP
def Cq (ops:Array Oper):Nat→List Nat→List Nat→Bool
  | 0,rs,l=>rs.isEmpty
  | f+1,rs,l=>rs.isEmpty || ((Region.ready .any ops (j3 ops.size l)).all (fun q=>mb q rs) && !(Region.ready .any ops (j3 ops.size l)).isEmpty && rs.all fun i=>Cq ops f (rs.erase i) (i::l))
def Ab (ops:Array Oper) (last:Nat):Nat→List Nat→List Nat→Bool
  | 0,rs,l=>rs.isEmpty
  | f+1,rs,l=>rs.isEmpty || ((Region.ready .any ops (j3 ops.size l)).all (fun q=>mb q (last::rs)) && !(Region.ready .any ops (j3 ops.size l)).isEmpty && (rs.all fun i=>Ab ops last f (rs.erase i) (i::l)) && Cq ops (f+1) rs (last::l))
def Cn (B:List HP→List Nat→List (Nat × Value)→Prop):List Eff→List HP→List Nat→List (Nat × Value)→Prop
  | [],L',l,F=>B L' l F
  | e::es,L',l,F=> ∀ g,e.p g→Cn B es (e.R g++L') (e.i::l) ((e.d,e.v g)::F)
def Sm (ops:Array Oper) (B:List HP→List Nat→List (Nat × Value)→Prop):Prop:=∀ L1 L2 l1 a b c,L1.Perm L2→j3 ops.size l1=j3 ops.size a→(∀ t,look b t=look c t)→B L1 l1 b→B L2 a c
theorem ug {a b:List (Nat × Value)} (h:∀ t,look a t=look b t) (d:Nat) (v:Value):∀ t,look ((d,v)::a) t=look ((d,v)::b) t:=fun t=>by
  unfold look; rw [h t]
theorem vH {F:List (Nat × Value)} {d e:Nat} (v u:Value) (hd:d≠e):∀ t,look ((d,v)::(e,u)::F) t=look ((e,u)::(d,v)::F) t:=fun t=>by
  simp only [look]
  by_cases b:d=t
  · have c:e≠t:=fun h=>hd (b.trans h.symm)
    have a:l4 e t=false:=by rw [Bool.eq_false_iff]; intro hh; exact c (m2 hh)
    rw [a]; simp
  · have a:l4 d t=false:=by rw [Bool.eq_false_iff]; intro hh; exact b (m2 hh)
    rw [a]; simp
theorem ou {n:Nat} {l1 a:List Nat} (h:j3 n l1=j3 n a) (i:Nat):j3 n (i::l1)=j3 n (i::a):=by unfold j3; rw [h]
theorem wZ {n:Nat} {l:List Nat} {i j:Nat} (h:i≠j):j3 n (i::j::l)=j3 n (j::i::l):=by
  simp only [j3]; exact Array.setIfInBounds_comm _ _ h.symm
theorem Cn.same {ops:Array Oper} {B:List HP→List Nat→List (Nat × Value)→Prop} (hB:Sm ops B):∀ es:List Eff,Sm ops (Cn B es)
  | []=>hB
  | e::es=>fun L1 L2 l1 a b c hp hl hF h g hg=>Cn.same hB es _ _ _ _ _ _ (hp.append_left _) (ou hl _) (ug hF _ _) (h g hg)
def Dc (e f:Eff):Prop:=e.i≠f.i∧e.d≠f.d
theorem Ac {α:Type} (a b c:List α):(a++(b++c)).Perm (b++(a++c)):=by
  rw [← q5, ← q5]; exact v0.append_right _
theorem Cn.swap {ops:Array Oper} {B:List HP→List Nat→List (Nat × Value)→Prop} (hB:Sm ops B) {e f:Eff} {es:List Eff} (hd:Dc e f) {L':List HP} {l:List Nat} {F:List (Nat × Value)} (h:Cn B (e::f::es) L' l F):Cn B (f::e::es) L' l F:=fun g hg g' hg'=>
  Cn.same hB es _ _ _ _ _ _ (Ac _ _ _) (wZ hd.1.symm) (vH _ _ hd.2.symm) (h g' hg' g hg)
theorem JW {ops:Array Oper} {B:List HP→List Nat→List (Nat × Value)→Prop} (hB:Sm ops B) {e:Eff} {bs:List Eff}:∀ (us:List Eff) (L':List HP) (l:List Nat) (F:List (Nat × Value)),(∀ a ∈ us,Dc a e)→Cn B (us++e::bs) L' l F→Cn B (e::(us++bs)) L' l F
  | [],L',l,F,_,h=>h
  | a::us,L',l,F,hd,h=>Cn.swap hB (hd a b1) (es:=us++bs) fun g hg=>JW hB us _ _ _ (fun x hx=>hd x (.tail _ hx)) (h g hg)
theorem Do.frame {P:Program} {n:Nat} {F G:List (Nat × Value)} {w:World} {op:Op} {ty:TypeId} {K:Value→World→Prop} (hs:∀ t v,look G t=some v→look F t=some v) (h:Do P n G w op ty K):Do P n F w op ty K:=fun a ha=>h a ⟨ha.size,fun t v hv=>ha.at_ t v (hs t v hv)⟩
theorem Yl.frame {P:Program} {n:Nat} {F G:List (Nat × Value)} {w:World} {op:Op} {ty:TypeId} {v:Value} (hs:∀ t v,look G t=some v→look F t=some v) (h:Yl P n G w op ty v):Yl P n F w op ty v:=fun a ha=>h a ⟨ha.size,fun t v hv=>ha.at_ t v (hs t v hv)⟩
theorem GX.same {P:Program} {ops:Array Oper} {Q:Exit→Act→World→Prop} {ks:List Nat} {Good:World→Prop} {fuel n:Nat} {l1 b:List Nat} {c d:List (Nat × Value)} {w:World} (hl:j3 ops.size l1=j3 ops.size b) (hF:∀ t,look c t=look d t) (h:GX P ops Q ks Good fuel l1 n c w):GX P ops Q ks Good fuel b n d w:=fun hQ hs=>by
  have e:=h hQ hs
  rw [hl] at e
  exact fun hc hS a ha=>e hc hS a ⟨⟨ha.size,fun t v hv=>ha.at_ t v (by rw [← hF]; exact hv)⟩,ha.defers⟩
section
variable {P:Program} {ops:Array Oper} {Q:Exit→Act→World→Prop} {ks:List Nat} {Good:World→Prop} {n:Nat} {w0:World} {D:Nat→Prop} {L:List HP} {G:List (Nat × Value)}
def De (P:Program) (ops:Array Oper) (n:Nat) (w0:World) (D:Nat→Prop) (L:List HP) (G:List (Nat × Value)) (e:Eff):Prop:=
  ops[e.i]? =some ⟨some e.d,e.op,e.ty,e.pos,e.aft,none⟩∧Nat.blt e.d n=true∧look G e.d=none∧∀ w L',Own w0 D w (sepL L'::L)→Do P n G w e.op e.ty fun u w'=> ∃ g,u=e.v g∧e.p g∧Own w0 D w' (e.R g++(sepL L'::L))
theorem xM {w:World} {R L':List HP} (H:Own w0 D w (R++(sepL L'::L))):Own w0 D w (sepL (R++L')::L):=by
  have b:Own w0 D w (sepL L'::(R++L)):=H.perm List.perm_middle
  have a:=b.flat
  rw [← q5] at a
  exact(a.perm (v0.append_right _)).pack
theorem tC {F:List (Nat × Value)} (hs:∀ t v,look G t=some v→look F t=some v) {d:Nat} (hd:look G d=none) (u:Value):∀ t v,look G t=some v→look ((d,u)::F) t=some v:=fun t v h=>by
  unfold look
  by_cases e:d=t
  · subst e; rw [hd] at h; cases h
  · have:l4 d t=false:=by rw [Bool.eq_false_iff]; intro hh; exact e (m2 hh)
    rw [this]; exact hs t v h
theorem Ae {es:List Eff} {q:Nat} (h:mb q (es.map Eff.i)=true):∃ us e bs,es=us++e::bs∧e.i=q:=by
  obtain⟨e,he,hq⟩:=v1.1 (qD.1 h)
  obtain⟨us,bs,hs⟩:=List.append_of_mem he
  exact⟨us,e,bs,hs,hq⟩
theorem Df {us bs:List Eff} {e:Eff} (hd:∀ a ∈ us,Dc a e):(s5 Eff.i (us++e::bs)).erase e.i=s5 Eff.i (us++bs):=by
  rw [v2,v2,List.map_cons,List.erase_append_right _ (fun hm=> ?_),List.erase_cons_head]
  obtain⟨a,ha,h⟩:=v1.1 hm
  exact(hd a ha).1 h
def Ds:List Eff→Prop
  | []=>True
  | e::es=>(∀ f ∈ es,Dc e f)∧Ds es
theorem Kc {e:Eff} {bs:List Eff}:∀ {us:List Eff},Ds (us++e::bs)→(∀ a ∈ us,Dc a e)∧Ds (us++bs)
  | [],h=>⟨fun a ha=>(by cases ha),h.2⟩
  | a::us,h=>by
    have c:=Kc h.2
    refine⟨fun x hx=> ?_,fun f hf=>h.1 f ?_,c.2⟩
    · rcases u2.1 hx with rfl | hx
      · exact h.1 e (u5 _ b1)
      · exact c.1 x hx
    · rcases v3.1 hf with b | b
      · exact s2 _ b
      · exact u5 _ (.tail _ b)
theorem FN {B:List HP→List Nat→List (Nat × Value)→Prop} (hB:Sm ops B) (hg:∀ w' L',Own w0 D w' (sepL L'::L)→Good w') {fuel:Nat}
    (hK:∀ L' l F w',(∀ t v,look G t=some v→look F t=some v)→Own w0 D w' (sepL L'::L)→B L' l F→GX P ops Q ks Good fuel l n F w'):
    ∀ (m:Nat) (es:List Eff),es.length=m→∀ (L':List HP) (l:List Nat) (F:List (Nat × Value)) (w:World),(∀ t v,look G t=some v→look F t=some v)→(∀ e ∈ es,De P ops n w0 D L G e)→Ds es→Cq ops m (es.map Eff.i) l=true→Own w0 D w (sepL L'::L)→Cn B es L' l F→GX P ops Q ks Good (fuel+m) l n F w
  | 0,es,hm,L',l,F,w,hs,hE,hd,hk,H,h=>by
    rw [v4] at hm; subst hm
    exact hK L' l F w hs H h
  | m+1,es,hm,L',l,F,w,hs,hE,hd,hk,H,h=>by
    have hne:(es.map Eff.i).isEmpty=false:=by
      cases es with
      | nil=>cases hm
      | cons _ _=>rfl
    unfold Cq at hk
    simp only [hne,Bool.false_or,Bool.and_eq_true,Bool.not_eq_true'] at hk
    refine fun hQ hns=>GW.any rfl hk.1.2 fun q hq=> ?_
    obtain⟨us,e,bs,rfl,rfl⟩:=Ae (s9.1 hk.1.1 q hq)
    have hdm:=Kc hd
    have hke:=s9.1 hk.2 e.i (v1.2 ⟨e,u5 _ b1,rfl⟩)
    rw [Df hdm.1] at hke
    obtain⟨hi,hbl,hfr,hdo⟩:=hE e (u5 _ b1)
    have hc:=JW hB us L' l F hdm.1 h
    refine GO.do hi hbl rfl (((hdo w L' H).frame hs).mono ?_)
    rintro _ w' ⟨g,rfl,hp,H'⟩
    have b:=xM H'
    refine⟨.inr (hg _ _ b),FN hB hg hK m (us++bs) ?_ _ (e.i::l) _ w' (tC hs hfr _) (fun x hx=>hE x ?_) hdm.2 hke b (hc g hp) hQ hns⟩
    · simp only [o2,s1] at hm ⊢; omega
    · rcases v3.1 hx with a | a
      · exact s2 _ a
      · exact u5 _ (.tail _ a)
def BM (P:Program) (ops:Array Oper) (Q:Exit→Act→World→Prop) (ks:List Nat) (Good:World→Prop) (n:Nat) (w0:World) (D:Nat→Prop) (L:List HP) (fuel im dm:Nat) (op:Op) (ty:TypeId) (e:Eff) (L':List HP) (l:List Nat) (F:List (Nat × Value)):Prop:=
  ∃ vm,(∀ W,Yl P n F W op ty vm)∧∀ g,e.p g→∀ w',Own w0 D w' (sepL (e.R g++L')::L)→GX P ops Q ks Good fuel (e.i::im::l) n ((e.d,e.v g)::(dm,vm)::F) w'
theorem BM.same {fuel im dm:Nat} {op:Op} {ty:TypeId} {e:Eff}:Sm ops (BM P ops Q ks Good n w0 D L fuel im dm op ty e):=fun L1 L2 l1 c d f hp hl hF ⟨vm,hy,h⟩=>
  ⟨vm,fun W=>(hy W).frame (fun t v hv=>by rw [← hF]; exact hv),fun g hg w' H=>(h g hg w' (by
    have a:=H.flat
    rw [q5] at a
    have b:=(a.perm ((hp.symm.append_right _).append_left _))
    rw [← q5] at b
    exact b.pack)).same (ou (ou hl _) _) (ug (ug hF _ _) _ _)⟩
def uk (P:Program) (ops:Array Oper) (n:Nat) (w0:World) (D:Nat→Prop) (L:List HP) (G:List (Nat × Value)):List Eff→Prop
  | []=>True
  | e::es=>De P ops n w0 D L G e∧uk P ops n w0 D L G es
theorem uk.all:∀ {es:List Eff},uk P ops n w0 D L G es→∀ e ∈ es,De P ops n w0 D L G e
  | [],_,e,he=>by cases he
  | f::es,h,e,he=>by
    rcases u2.1 he with rfl | he
    · exact h.1
    · exact uk.all h.2 e he
def tF:List Nat→Bool
  | []=>true
  | k::r=> !(mb k r) && tF r
theorem xO {k:Nat} {r:List Nat} (h:tF (k::r)=true):tF r=true:=by
  unfold tF at h; rw [Bool.and_eq_true] at h; exact h.2
theorem Cr:∀ {es:List Eff},tF (es.map Eff.i)=true→tF (es.map Eff.d)=true→Ds es
  | [],_,_=>trivial
  | e::es,a,b=>by
    simp only [List.map_cons,tF,Bool.and_eq_true,Bool.not_eq_true'] at a b
    refine⟨fun f hf=>⟨fun he=> ?_,fun he=> ?_⟩,Cr a.2 b.2⟩
    · have:mb e.i (es.map Eff.i)=true:=qD.2 (v1.2 ⟨f,hf,he.symm⟩)
      rw [a.1] at this; cases this
    · have:mb e.d (es.map Eff.d)=true:=qD.2 (v1.2 ⟨f,hf,he.symm⟩)
      rw [b.1] at this; cases this
def yX:List Eff→List Nat→List Nat
  | [],l=>l
  | e::es,l=>yX es (e.i::l)
theorem Ke {B:List HP→List Nat→List (Nat × Value)→Prop} {d:Nat}:∀ {es:List Eff} {L':List HP} {l:List Nat} {F:List (Nat × Value)},look F d=none→(∀ e ∈ es,d≠e.d)→Cn B es L' l F→Cn (fun L' l' F=>B L' l' F∧j3 ops.size l'=j3 ops.size (yX es l)∧look F d=none) es L' l F
  | [],L',l,F,a,b,h=>⟨h,rfl,a⟩
  | e::es,L',l,F,a,b,h=>fun g hg=>Ke (by
      unfold look
      have:l4 e.d d=false:=by rw [Bool.eq_false_iff]; intro hh; exact b e b1 (m2 hh).symm
      rw [this]; exact a) (fun x hx=>b x (.tail _ hx)) (h g hg)
theorem Ea {B:List HP→List Nat→List (Nat × Value)→Prop} {d:Nat} {lc:List Nat} (hB:Sm ops B):Sm ops (fun L' l F=>B L' l F∧j3 ops.size l=j3 ops.size lc∧look F d=none):=fun L1 L2 l1 a b c hp hl hF h=>
  ⟨hB _ _ _ _ _ _ hp hl hF h.1,hl.symm.trans h.2.1,(hF d).symm.trans h.2.2⟩
def B2 (ops:Array Oper) (B:List HP→List Nat→List (Nat × Value)→Prop) (i d:Nat) (u:Value) (R:List HP) (L':List HP) (l:List Nat) (F:List (Nat × Value)):Prop:=
  ∃ L1 l1 a,B L1 l1 a∧L'.Perm (R++L1)∧j3 ops.size l=j3 ops.size (i::l1)∧∀ t,look F t=look ((d,u)::a) t
theorem B2.same {B:List HP→List Nat→List (Nat × Value)→Prop} {i d:Nat} {u:Value} {R:List HP}:Sm ops (B2 ops B i d u R):=fun L1 L2 l1 j k l hp hl hF ⟨a,b,c,h,e,f,g⟩=>
  ⟨a,b,c,h,hp.symm.trans e,hl.symm.trans f,fun t=>(hF t).symm.trans (g t)⟩
theorem Ko {B:List HP→List Nat→List (Nat × Value)→Prop} {i d:Nat} {u:Value} {R:List HP}:∀ {es:List Eff} {L1 L':List HP} {l1 l:List Nat} {a F:List (Nat × Value)},(∀ e ∈ es,e.i≠i∧e.d≠d)→L'.Perm (R++L1)→j3 ops.size l=j3 ops.size (i::l1)→(∀ t,look F t=look ((d,u)::a) t)→Cn B es L1 l1 a→Cn (B2 ops B i d u R) es L' l F
  | [],L1,L',l1,l,a,F,hd,hp,hl,hF,h=>⟨L1,l1,a,h,hp,hl,hF⟩
  | e::es,L1,L',l1,l,a,F,hd,hp,hl,hF,h=>fun g hg=>Ko (fun x hx=>hd x (.tail _ hx)) ((hp.append_left _).trans (Ac _ _ _)) ((ou hl _).trans (wZ (hd e b1).1)) (fun t=>(ug hF _ _ t).trans (vH _ _ (hd e b1).2 t)) (h g hg)
theorem Eb {fuel im dm:Nat} {op:Op} {ty:TypeId} {pos:String} {aft:Array Edge} {e:Eff} {lc:List Nat} (hg:∀ w' L',Own w0 D w' (sepL L'::L)→Good w') (hi:ops[im]? =some ⟨some dm,op,ty,pos,aft,none⟩) (he:De P ops n w0 D L G e) (hdm:dm≠e.d) (hie:im≠e.i) (hgd:look G dm=none)
    (f:tu ops ks im lc dm n=true) (j:dx ops e.i (im::lc)=true) (k:tu ops ks im (e.i::lc) dm n=true):
    ∀ (m:Nat) (es:List Eff),es.length=m→∀ (L':List HP) (l:List Nat) (F:List (Nat × Value)) (w:World),(∀ t v,look G t=some v→look F t=some v)→(∀ e ∈ es,De P ops n w0 D L G e)→(∀ x ∈ es,x.i≠e.i∧x.d≠e.d)→Ds es→Ab ops e.i m (es.map Eff.i) l=true→Own w0 D w (sepL L'::L)→Cn (fun L' l F=>BM P ops Q ks Good n w0 D L fuel im dm op ty e L' l F∧j3 ops.size l=j3 ops.size lc∧look F e.d=none) es L' l F→GX P ops Q ks Good (fuel+2+m) l n F w
  | 0,es,hm,L',l,F,w,hs,hE,hx,hd,hk,H,h=>by
    rw [v4] at hm; subst hm
    obtain⟨⟨vm,hy,h⟩,hl,hF⟩:=h
    obtain⟨a,hbl,hfr,hdo⟩:=he
    refine GX.same (l1:=lc) hl.symm (fun _=>rfl) (qt im hi (fun W _=>hy W) (GX.do e.i a (by rw [j,hbl]; rfl) (((hdo w L' H).frame (tC hs hgd _)).mono ?_)) f)
    rintro _ w' ⟨g,rfl,hp,H'⟩
    have c:=xM H'
    exact⟨.inr (hg _ _ c),(h g hp w' c).same (ou (ou hl _) _) (fun _=>rfl)⟩
  | m+1,es,hm,L',l,F,w,hs,hE,hx,hd,hk,H,h=>by
    have hne:(es.map Eff.i).isEmpty=false:=by
      cases es with
      | nil=>cases hm
      | cons _ _=>rfl
    unfold Ab at hk
    simp only [hne,Bool.false_or,Bool.and_eq_true,Bool.not_eq_true'] at hk
    refine fun hQ hns=>GW.any rfl hk.1.1.2 fun q hq=> ?_
    have o:=s9.1 hk.1.1.1 q hq
    rw [qD,u2] at o
    by_cases hqe:q=e.i
    · subst hqe
      have z:=he
      obtain⟨a,hbl,hfr,hdo⟩:=z
      refine GO.do a hbl rfl (((hdo w L' H).frame hs).mono ?_)
      rintro _ w' ⟨g,rfl,hp,H'⟩
      have c:=xM H'
      refine⟨.inr (hg _ _ c), ?_⟩
      have hc:=Ko (ops:=ops) (i:=e.i) (d:=e.d) (u:=e.v g) (R:=e.R g) hx (List.Perm.refl _) rfl (fun _=>rfl) h
      have hK:∀ (L2:List HP) (A:List Nat) (s:List (Nat × Value)) (p:World),(∀ t v,look G t=some v→look s t=some v)→Own w0 D p (sepL L2::L)→B2 ops (fun L' l F=>BM P ops Q ks Good n w0 D L fuel im dm op ty e L' l F∧j3 ops.size l=j3 ops.size lc∧look F e.d=none) e.i e.d (e.v g) (e.R g) L2 A s→GX P ops Q ks Good (fuel+1) A n s p:=by
        rintro L2 A s p M N ⟨L1,l1,U,⟨⟨vm,hy,O⟩,r,B⟩,C,E,I⟩
        refine GX.same (l1:=e.i::lc) ((ou r.symm _).trans E.symm) (fun t=>(I t).symm) (qt im hi (fun W _=>(hy W).frame (tC (fun _ _ h=>h) B _)) ?_ k)
        have S:Own w0 D p (sepL (e.R g++L1)::L):=((N.flat).perm (C.append_right _)).pack
        exact(O g hp p S).same (((ou (ou r _) _)).trans (wZ hie.symm)) (vH _ _ hdm.symm)
      have K:=FN (P:=P) (Q:=Q) (ks:=ks) (Good:=Good) (n:=n) (w0:=w0) (D:=D) (L:=L) (G:=G) B2.same hg (fuel:=fuel+1) hK (m+1) es hm _ (e.i::l) _ w' (tC hs hfr (e.v g)) hE hd hk.2 c hc
      have T:fuel+1+(m+1)=fuel+2+m:=by omega
      rw [T] at K
      exact K hQ hns
    · obtain⟨us,x,bs,rfl,rfl⟩:=Ae (qD.2 (o.resolve_left hqe))
      have b:=Kc hd
      have hke:=s9.1 hk.1.2 x.i (v1.2 ⟨x,u5 _ b1,rfl⟩)
      rw [Df b.1] at hke
      have hin:∀ y ∈ us++bs,y ∈ us++x::bs:=fun y hy=>by
        rcases v3.1 hy with J | J
        · exact s2 _ J
        · exact u5 _ (.tail _ J)
      obtain⟨a,hbl,hfr,hdo⟩:=hE x (u5 _ b1)
      have hc:=JW (Ea BM.same) us L' l F b.1 h
      refine GO.do a hbl rfl (((hdo w L' H).frame hs).mono ?_)
      rintro _ w' ⟨g,rfl,hp,H'⟩
      have c:=xM H'
      refine⟨.inr (hg _ _ c),Eb hg hi he hdm hie hgd f j k m (us++bs) ?_ _ (x.i::l) _ w' (tC hs hfr _) (fun y hy=>hE y (hin y hy)) (fun y hy=>hx y (hin y hy)) b.2 hke c (hc g hp) hQ hns⟩
      simp only [o2,s1] at hm ⊢; omega
theorem EG {A B:List HP} {l:List Nat} {F:List (Nat × Value)} {w:World} {fuel dm:Nat} {op:Op} {ty:TypeId} {pos:String} {aft:Array Edge} (a e:Eff) (im k:Nat) (H:Own w0 D w L) (hE:uk P ops n w0 D L F (e:: [a])) (hi:ops[im]? =some ⟨some dm,op,ty,pos,aft,none⟩)
    (h:Cn (BM P ops Q ks (fun W=> ∃ L',Own w0 D W (A++L')) n w0 D L fuel im dm op ty e) [a] [] l F) (hdm:look F dm=none:=by exact rfl) (hA:Aa k L=some (A,B):=by exact rfl) (b:tF (im::e.i::s5 Eff.i [a])=true:=by exact rfl) (c:tF (dm::e.d::s5 Eff.d [a])=true:=by exact rfl)
    (hk:(Ab ops e.i 1 (s5 Eff.i [a]) l && tu ops ks im (yX [a] l) dm n && dx ops e.i (im::yX [a] l) && tu ops ks im (e.i::yX [a] l) dm n)=true:=by kernel_rfl):GX P ops Q ks (fun W=> ∃ L',Own w0 D W (A++L')) (fuel+3) l n F w:=by
  have he:=uk.all hE e b1
  have hd:=Cr (es:=e:: [a]) (xO b) (xO c)
  have hx:∀ x ∈ [a],x.i≠e.i∧x.d≠e.d:=fun x hx=>⟨fun h=>(hd.1 x hx).1 h.symm,fun h=>(hd.1 x hx).2 h.symm⟩
  simp only [Bool.and_eq_true] at hk
  have g:im≠e.i:=fun h=>by subst h; simp [tF,mb] at b
  have j:dm≠e.d:=fun h=>by subst h; simp [tF,mb] at c
  exact Eb (fun w' L' H=>⟨B++ [sepL L'],by
    have f:=H.perm (v0 (l₁:= [sepL L']) (l₂:=L))
    rw [xL k L A B hA,q5] at f; exact f⟩) hi he j g hdm hk.1.1.2 hk.1.2 hk.2 1 [a] rfl [] l F w (fun _ _ h=>h) (fun x hx=>uk.all hE x (.tail _ hx)) hx hd.2 hk.1.1.1 H.sepNil (Ke he.2.2.1 (fun x hx'=>Ne.symm (hx x hx').2) h)
theorem GG {A B:List HP} {l:List Nat} {F:List (Nat × Value)} {w:World} {fuel dm:Nat} {op:Op} {ty:TypeId} {pos:String} {aft:Array Edge} (a b c e:Eff) (im k:Nat) (H:Own w0 D w L) (hE:uk P ops n w0 D L F (e:: [a,b,c])) (hi:ops[im]? =some ⟨some dm,op,ty,pos,aft,none⟩)
    (h:Cn (BM P ops Q ks (fun W=> ∃ L',Own w0 D W (A++L')) n w0 D L fuel im dm op ty e) [a,b,c] [] l F) (hdm:look F dm=none:=by exact rfl) (hA:Aa k L=some (A,B):=by exact rfl) (f:tF (im::e.i::s5 Eff.i [a,b,c])=true:=by exact rfl) (g:tF (dm::e.d::s5 Eff.d [a,b,c])=true:=by exact rfl)
    (hk:(Ab ops e.i 3 (s5 Eff.i [a,b,c]) l && tu ops ks im (yX [a,b,c] l) dm n && dx ops e.i (im::yX [a,b,c] l) && tu ops ks im (e.i::yX [a,b,c] l) dm n)=true:=by kernel_rfl):GX P ops Q ks (fun W=> ∃ L',Own w0 D W (A++L')) (fuel+5) l n F w:=by
  have he:=uk.all hE e b1
  have hd:=Cr (es:=e:: [a,b,c]) (xO f) (xO g)
  have hx:∀ x ∈ [a,b,c],x.i≠e.i∧x.d≠e.d:=fun x hx=>⟨fun h=>(hd.1 x hx).1 h.symm,fun h=>(hd.1 x hx).2 h.symm⟩
  simp only [Bool.and_eq_true] at hk
  have m:im≠e.i:=fun h=>by subst h; simp [tF,mb] at f
  have o:dm≠e.d:=fun h=>by subst h; simp [tF,mb] at g
  exact Eb (fun w' L' H=>⟨B++ [sepL L'],by
    have j:=H.perm (v0 (l₁:= [sepL L']) (l₂:=L))
    rw [xL k L A B hA,q5] at j; exact j⟩) hi he o m hdm hk.1.1.2 hk.1.2 hk.2 3 [a,b,c] rfl [] l F w (fun _ _ h=>h) (fun x hx=>uk.all hE x (.tail _ hx)) hx hd.2 hk.1.1.1 H.sepNil (Ke he.2.2.1 (fun x hx'=>Ne.symm (hx x hx').2) h)
end
end Go.Proofs.YtbkagebjhbphaaaGreat
