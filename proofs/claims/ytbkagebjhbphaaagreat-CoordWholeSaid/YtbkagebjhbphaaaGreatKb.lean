/-
  Operations as steps; a region that draws its order as a game.
  Conditions: none beyond each step's own.
-/
import Derived.Test.YtbkagebjhbphaaaGreatKa
import Derived.IntWalk
namespace Go.Proofs.YtbkagebjhbphaaaGreat
open List renaming any_eq_true→m4,mem_singleton→m5
open Nat renaming blt→m3
set_option linter.unusedVariables false
set_option linter.unusedSimpArgs false
open Go.RowKit
def Yl (P:Program) (n:Nat) (F:List (Nat × Value)) (w:World) (op:Op) (ty:TypeId) (v:Value):Prop:=
  ∀ a,Ag0 n F a→∀ o:Oper,o.op=op→o.type=ty→(execOp a.eval o).run P w= .ok (.value v) w
def Do (P:Program) (n:Nat) (F:List (Nat × Value)) (w:World) (op:Op) (ty:TypeId) (K:Value→World→Prop):Prop:=
  ∀ a,Ag0 n F a→∀ o:Oper,o.op=op→o.type=ty→∀ (next:Act→World→Prop) (Q:Exit→Act→World→Prop),(∀ v w',K v w'→next (a.put o.dst v) w')→o.upon P a next Q ((execOp a.eval o).run P w)
section
variable {P:Program} {n:Nat} {F:List (Nat × Value)} {w:World} {op:Op} {ty:TypeId} {v:Value} {K:Value→World→Prop}
theorem Yl.do (h:Yl P n F w op ty v) (k:K v w):Do P n F w op ty K:=fun a ha o b c next Q hn=>by
  rw [h a ha o b c]; exact hn v w k
theorem Do.mono {K':Value→World→Prop} (h:Do P n F w op ty K) (hk:∀ v w',K v w'→K' v w'):Do P n F w op ty K':=fun a ha o b c next Q hn=>
  h a ha o b c next Q fun v w' k=>hn v w' (hk v w' k)
variable {ops:Array Oper} {rest:List Oper} {Q:Exit→Act→World→Prop} {pos:String} {aft:Array Edge} {d:Nat}
theorem WL.do (hd:m3 d n=true) (h:Do P n F w op ty fun v w'=>WL P ops Q rest n ((d,v)::F) w'):WL P ops Q (⟨some d,op,ty,pos,aft,none⟩::rest) n F w:=fun a ha=>
  wpList_plain rfl fun _ hK=>h a ha.toAg0 _ rfl rfl _ _ fun v w' k=>hK _ _ (k _ (ha.put hd))
theorem Jz (h:Do P n F w op ty fun _ w'=>WL P ops Q rest n F w'):WL P ops Q (⟨none,op,ty,pos,aft,none⟩::rest) n F w:=fun a ha=>
  wpList_plain rfl fun _ hK=>h a ha.toAg0 _ rfl rfl _ _ fun v w' k=>hK _ _ (k _ (ha.put0 v))
theorem WL.val (hd:m3 d n=true) (hy:Yl P n F w op ty v) (h:WL P ops Q rest n ((d,v)::F) w):WL P ops Q (⟨some d,op,ty,pos,aft,none⟩::rest) n F w:=
  WL.do hd (hy.do h)
theorem qA {a:Act} {j t:Nat} {b:Bool} (ha:Ag0 n F a) (hj:(ops[j]?).bind (·.dst)=some t) (hv:look F t=some (.bool b)):yielded ops a.tmps j=some b:=by
  unfold yielded
  rw [hj]
  simp [ha.at_ _ _ hv]
theorem ve {a:Act} {j t:Nat} (ha:Ag0 n F a) (hj:(ops[j]?).bind (·.dst)=some t) (hv:look F t=some undef):yielded ops a.tmps j=none:=by
  unfold yielded
  rw [hj]
  simp [ha.at_ _ _ hv,undef]
theorem IG {j t:Nat} {b:Bool} (hj:(ops[j]?).bind (·.dst)=some t) (hv:look F t=some undef) (hd:m3 d n=true) (h:WL P ops Q rest n ((d,undef)::F) w):
    WL P ops Q (⟨some d,op,ty,pos,aft,some (j,b)⟩::rest) n F w:=fun a ha=>
  wpList_step fun _ hK=>by
    have hw:Region.wanted ⟨some d,op,ty,pos,aft,some (j,b)⟩ (yielded ops a.tmps)=false:=by simp [Region.wanted,ve ha.toAg0 hj hv]
    rw [hw,if_neg f2]
    exact hK _ _ (h _ (ha.put hd))
theorem Ju {j t:Nat} {b b':Bool} (hj:(ops[j]?).bind (·.dst)=some t) (hv:look F t=some (.bool b')) (hb:b'=b) (hd:m3 d n=true) (h:Do P n F w op ty fun v w'=>WL P ops Q rest n ((d,v)::F) w'):
    WL P ops Q (⟨some d,op,ty,pos,aft,some (j,b)⟩::rest) n F w:=fun a ha=>
  wpList_step fun _ hK=>by
    have hw:Region.wanted ⟨some d,op,ty,pos,aft,some (j,b)⟩ (yielded ops a.tmps)=true:=by subst hb; simp [Region.wanted,qA ha.toAg0 hj hv]
    rw [if_pos hw]
    exact h a ha.toAg0 _ rfl rfl _ _ fun v w' k=>hK _ _ (k _ (ha.put hd))
theorem I7 {j t:Nat} {b b':Bool} (hj:(ops[j]?).bind (·.dst)=some t) (hv:look F t=some (.bool b')) (hb:b'=b) (hd:m3 d n=true) (hy:Yl P n F w op ty v) (h:WL P ops Q rest n ((d,v)::F) w):
    WL P ops Q (⟨some d,op,ty,pos,aft,some (j,b)⟩::rest) n F w:=Ju hj hv hb hd (hy.do h)
theorem Ka {j t:Nat} {b b':Bool} (hj:(ops[j]?).bind (·.dst)=some t) (hv:look F t=some (.bool b')) (hb:b'= !b) (hd:m3 d n=true) (h:WL P ops Q rest n ((d,undef)::F) w):
    WL P ops Q (⟨some d,op,ty,pos,aft,some (j,b)⟩::rest) n F w:=fun a ha=>
  wpList_step fun _ hK=>by
    have hw:Region.wanted ⟨some d,op,ty,pos,aft,some (j,b)⟩ (yielded ops a.tmps)=false:=by subst hb; simp [Region.wanted,qA ha.toAg0 hj hv]
    rw [hw,if_neg f2]
    exact hK _ _ (h _ (ha.put hd))
end
section game
variable {P:Program} {ops:Array Oper} {Q:Exit→Act→World→Prop} {S:Array Bool→World→Prop}
def vg (ops:Array Oper) (l:Array Bool):Prop:=∀ j,l.getD j false=true→∃ o,ops[j]? =some o∧∀ e ∈ o.after,Region.binds .any e=true→l.getD e.on false=true
theorem KI (ops:Array Oper):vg ops (Array.replicate ops.size false):=fun j h=>by
  simp only [Array.getD_eq_getD_getElem?,Array.getElem?_replicate] at h
  split at h <;> simp at h
theorem vg.step {l:Array Bool} {i:Nat} (h:vg ops l) (hi:i ∈ Region.ready .any ops l):vg ops (l.setIfInBounds i true):=fun j hj=>by
  by_cases e:i=j
  · subst e
    obtain⟨_,o,ho,hall⟩:=mem_ready.1 hi
    exact⟨o,ho,fun e he hb=>getD_set_true (hall e he hb)⟩
  · rw [getD_set_ne false e] at hj
    obtain⟨o,ho,hall⟩:=h j hj
    exact⟨o,ho,fun e he hb=>getD_set_true (hall e he hb)⟩
def wpAnyS (P:Program) (ops:Array Oper) (Q:Exit→Act→World→Prop) (S:Array Bool→World→Prop):Nat→Array Bool→Act→World→Prop
  | 0,listed,a,w=>Region.ready .any ops listed= []∧Q .normal a w
  | fuel+1,listed,a,w=>
    (Region.ready .any ops listed= []→Q .normal a w)∧
    ∀ i ∈ Region.ready .any ops listed,wpOp P ops Q i (fun a' w'=>S (listed.setIfInBounds i true) w'∧wpAnyS P ops Q S fuel (listed.setIfInBounds i true) a' w') a w
theorem xG:∀ (fuel:Nat) (listed:Array Bool) (a:Act) (w:World),wpAnyS P ops Q S fuel listed a w→wpAny P .any ops Q fuel listed a w
  | 0,_,_,_,h=>h
  | fuel+1,_,_,_,h=>⟨h.1,fun i hi=>wpOp_mono (fun a' w' h'=>xG fuel _ a' w' h'.2) (h.2 i hi)⟩
def Sat (ops:Array Oper) (S:Array Bool→World→Prop) (i:Nat) (w:World):Prop:=∃ l,vg ops l∧l.getD i true=false∧S l w
theorem wpAnyS_first {i:Nat} {oi:Oper} {v:Value} (hi:ops[i]? =some oi) (hsel:∀ (j:Nat) (o:Oper) cs b,ops[j]? =some o→o.op≠ .select cs b)
    (hQ:∀ c a w,Q (.panic c) (a.put oi.dst v) w→Q (.panic c) a w) (hSi:∀ l w,S (l.setIfInBounds i true) w↔S l w):
    ∀ (fuel:Nat) (listed:Array Bool) (a:Act) (w:World),
      (∀ j oj,ops[j]? =some oj→j≠i→listed.getD j true=false→(∀ e ∈ oj.after,Region.binds .any e=true→e.on≠i)→oi.apart ops oj=true)→
      i ∈ Region.ready .any ops listed→YieldsIf P ops (Sat ops S i) oi v a→vg ops listed→S listed w→
      wpAnyS P ops Q S fuel (listed.setIfInBounds i true) (a.put oi.dst v) w→wpAnyS P ops Q S (fuel+1) listed a w:=by
  intro fuel
  induction fuel with
  | zero=>
    intro listed a w _ hr hy hc hS H
    refine⟨fun h=>(by rw [h] at hr; cases hr),fun j hj=> ?_⟩
    by_cases hji:j=i
    · subst hji
      exact hy.wpOp hi ⟨listed,hc,(mem_ready.1 hr).1,hS⟩ ⟨(hSi _ _).2 hS,H⟩
    · have:=ready_mono hj hji
      rw [H.1] at this
      cases this
  | succ fuel ih=>
    intro listed a w hfree hr hy hc hS H
    refine⟨fun h=>(by rw [h] at hr; cases hr),fun j hj=> ?_⟩
    by_cases hji:j=i
    · subst hji; exact hy.wpOp hi ⟨listed,hc,(mem_ready.1 hr).1,hS⟩ ⟨(hSi _ _).2 hS,H⟩
    · have f:=H.2 j (ready_mono hj hji)
      obtain⟨hjun,oj,hoj,hall⟩:=mem_ready.1 hj
      have hnot:∀ e ∈ oj.after,Region.binds .any e=true→e.on≠i:=fun e he hb heq=>by
        have f:=hall e he hb
        have m:=(mem_ready.1 hr).1
        rw [heq] at f
        rcases Nat.lt_or_ge i listed.size with h' | h'
        · simp [h'] at m f; rw [m] at f; cases f
        · simp [Array.getElem?_eq_none h'] at f
      have p:=wpOp_putIf hoj (hfree j oj hoj hji hjun hnot) (fun cs b=>hsel i oi cs b hi) (fun cs b=>hsel j oj cs b hoj) hQ hy f
      have hfree':∀ k ok,ops[k]? =some ok→k≠i→(listed.setIfInBounds j true).getD k true=false→
          (∀ e ∈ ok.after,Region.binds .any e=true→e.on≠i)→oi.apart ops ok=true:=fun k ok hk hki hun hno=>by
        refine hfree k ok hk hki ?_ hno
        by_cases hjk:j=k
        · subst hjk; exact hjun
        · rw [getD_set_ne true hjk] at hun; exact hun
      refine wpOp_mono (fun a' w' g=> ?_) p
      have hS':S (listed.setIfInBounds j true) w':=by
        have:=g.2.1
        rw [← Array.setIfInBounds_comm _ _ hji] at this
        exact(hSi _ _).1 this
      refine⟨hS',ih (listed.setIfInBounds j true) a' w' hfree' (ready_mono hr (Ne.symm hji)) g.1 (hc.step hj) hS' ?_⟩
      rw [Array.setIfInBounds_comm _ _ hji]
      exact g.2.2
def GW (P:Program) (ops:Array Oper) (Q:Exit→Act→World→Prop) (S:Array Bool→World→Prop) (fuel:Nat) (l:Array Bool) (n:Nat) (F:List (Nat × Value)) (w:World):Prop:=
  vg ops l→S l w→∀ a,Ag n F a→wpAnyS P ops Q S fuel l a w
variable {n:Nat} {F:List (Nat × Value)} {w:World} {op:Op} {ty:TypeId} {v:Value} {fuel:Nat} {l:Array Bool} {pos:String} {aft:Array Edge} {d:Nat}
theorem KJ {i:Nat} {l:List Oper} (S:Array Bool→World→Prop) (hm:P.follows .mixedOrders=true) (hS:S (Array.replicate l.toArray.size false) w.drew)
    (h:GW P l.toArray Q S l.toArray.size (Array.replicate l.toArray.size false) n F w.drew):Wp P (.region i l.toArray true) n F w Q:=fun a ha=>
  wp_region_any hm (xG _ _ _ _ (h (KI _) hS a ha))
def kY (ks:List Nat) (Good:World→Prop) (l:Array Bool) (w:World):Prop:=ks.any (fun k=>l.getD k false)=true∨Good w
def way (ops:Array Oper) (i:Nat):Nat→List Nat→Bool
  | k, []=>(ops[k]?).any fun o=>o.after.toList.any fun e=>Region.binds .any e && e.on==i
  | k,j::r=>((ops[k]?).any fun o=>o.after.toList.any fun e=>Region.binds .any e && e.on==j) && way ops i j r
theorem xH {i:Nat}:∀ (r:List Nat) (k:Nat),way ops i k r=true→vg ops l→l.getD k false=true→l.getD i false=true
  | [],k,h,hc,hk=>by
    obtain⟨o,ho,hall⟩:=hc k hk
    simp only [way,ho,Option.any_some,m4,Array.mem_toList_iff] at h
    obtain⟨e,he,a⟩:=h
    simp only [Bool.and_eq_true,beq_iff_eq] at a
    rw [← a.2]; exact hall e he a.1
  | j::r,k,h,hc,hk=>by
    simp only [way,Bool.and_eq_true] at h
    obtain⟨o,ho,hall⟩:=hc k hk
    simp only [ho,Option.any_some,m4,Array.mem_toList_iff] at h
    obtain⟨⟨e,he,a⟩,b⟩:=h
    simp only [Bool.and_eq_true,beq_iff_eq] at a
    exact xH r j b hc (by rw [← a.2]; exact hall e he a.1)
def ways (ops:Array Oper) (i:Nat):List Nat→List (List Nat)→Bool
  | [], []=>true
  | k::ks,r::rs=>way ops i k r && !(k==i) && ways ops i ks rs
  | _,_=>false
theorem qh {i:Nat}:∀ (ks:List Nat) (rs:List (List Nat)),ways ops i ks rs=true→i ∉ ks∧(vg ops l→l.getD i true=false→ks.any (fun k=>l.getD k false)=false)
  | [], [],_=>⟨by simp,fun _ _=>rfl⟩
  | k::ks,r::rs,h=>by
    simp only [ways,Bool.and_eq_true,Bool.not_eq_true',beq_eq_false_iff_ne] at h
    obtain⟨a,b⟩:=qh ks rs h.2
    refine⟨by simp only [List.mem_cons,not_or]; exact⟨fun e=>h.1.2 e.symm,a⟩,fun hc hi=> ?_⟩
    rw [List.any_cons,b hc hi,Bool.or_false,Bool.eq_false_iff]
    intro hk
    have:=xH r k h.1.1 hc hk
    rcases Nat.lt_or_ge i l.size with h' | h'
    · simp [h'] at this hi; rw [this] at hi; cases hi
    · simp [Array.getElem?_eq_none h'] at hi
theorem kY.same {ks:List Nat} {Good:World→Prop} {i:Nat} (hi:i ∉ ks) (l:Array Bool) (w:World):kY ks Good (l.setIfInBounds i true) w↔kY ks Good l w:=by
  have:ks.any (fun k=>(l.setIfInBounds i true).getD k false)=ks.any (fun k=>l.getD k false):=by
    rw [Bool.eq_iff_iff,m4,m4]
    exact exists_congr fun k=>and_congr_right fun hk=>by rw [getD_set_ne false (fun e=>hi (by rw [e]; exact hk))]
  unfold kY
  rw [this]
section
variable {ks:List Nat} {Good:World→Prop}
theorem GW.take {i:Nat} {l':Array Bool} {rs:List (List Nat)} (hi:ops[i]? =some ⟨some d,op,ty,pos,aft,none⟩) (hs:Region.noSelect ops=true) (hd:m3 d n=true)
    (hQ:bv Q) (hf:Region.free .any ops l i=true) (hr:(Region.ready .any ops l).contains i=true) (hw:ways ops i ks rs=true) (hl:l.setIfInBounds i true=l')
    (hy:∀ W,Good W→Yl P n F W op ty v) (h:GW P ops Q (kY ks Good) fuel l' n ((d,v)::F) w):GW P ops Q (kY ks Good) (fuel+1) l n F w:=fun hc hS a ha=>by
  have hn:=qh (l:=l) ks rs hw
  have hr':i ∈ Region.ready .any ops l:=by simpa using hr
  refine wpAnyS_first (v:=v) hi (Region.noSelect_spec hs) (fun c a w hq=>absurd hq (hQ c _ w)) (kY.same hn.1) fuel l a w (Region.free_spec hi hf) hr' (.inl ⟨by simp [Region.wanted],fun W hW=> ?_⟩) hc hS ?_
  · obtain⟨e,f,g,b⟩:=hW
    refine hy W ?_ a ha.toAg0 _ rfl rfl
    rcases b with b | b
    · rw [(qh (l:=e) ks rs hw).2 f g] at b; cases b
    · exact b
  · rw [hl]
    exact h (hl ▸ hc.step hr') (hl ▸ (kY.same hn.1 _ _).2 hS) _ (ha.put hd)
theorem KL {i j t:Nat} {b b':Bool} {l':Array Bool} {rs:List (List Nat)} (hi:ops[i]? =some ⟨some d,op,ty,pos,aft,some (j,b)⟩) (hj:(ops[j]?).bind (·.dst)=some t) (hv:look F t=some (.bool b')) (hb:b'=b) (hs:Region.noSelect ops=true) (hd:m3 d n=true)
    (hQ:bv Q) (hf:Region.free .any ops l i=true) (hr:(Region.ready .any ops l).contains i=true) (hw:ways ops i ks rs=true) (hl:l.setIfInBounds i true=l')
    (hy:∀ W,Good W→Yl P n F W op ty v) (h:GW P ops Q (kY ks Good) fuel l' n ((d,v)::F) w):GW P ops Q (kY ks Good) (fuel+1) l n F w:=fun hc hS a ha=>by
  have hn:=qh (l:=l) ks rs hw
  have hr':i ∈ Region.ready .any ops l:=by simpa using hr
  refine wpAnyS_first (v:=v) hi (Region.noSelect_spec hs) (fun c a w hq=>absurd hq (hQ c _ w)) (kY.same hn.1) fuel l a w (Region.free_spec hi hf) hr' (.inl ⟨by subst hb; simp [Region.wanted,qA ha.toAg0 hj hv],fun W hW=> ?_⟩) hc hS ?_
  · obtain⟨f,g,k,e⟩:=hW
    refine hy W ?_ a ha.toAg0 _ rfl rfl
    rcases e with e | e
    · rw [(qh (l:=f) ks rs hw).2 g k] at e; cases e
    · exact e
  · rw [hl]
    exact h (hl ▸ hc.step hr') (hl ▸ (kY.same hn.1 _ _).2 hS) _ (ha.put hd)
theorem KM {i j t:Nat} {b b':Bool} {l':Array Bool} {rs:List (List Nat)} (hi:ops[i]? =some ⟨some d,op,ty,pos,aft,some (j,b)⟩) (hj:(ops[j]?).bind (·.dst)=some t) (hv:look F t=some (.bool b')) (hb:b'= !b) (hs:Region.noSelect ops=true) (hd:m3 d n=true)
    (hQ:bv Q) (hf:Region.free .any ops l i=true) (hr:(Region.ready .any ops l).contains i=true) (hw:ways ops i ks rs=true) (hl:l.setIfInBounds i true=l')
    (h:GW P ops Q (kY ks Good) fuel l' n ((d,undef)::F) w):GW P ops Q (kY ks Good) (fuel+1) l n F w:=fun hc hS a ha=>by
  have hn:=qh (l:=l) ks rs hw
  have hr':i ∈ Region.ready .any ops l:=by simpa using hr
  refine wpAnyS_first (v:=undef) hi (Region.noSelect_spec hs) (fun c a w hq=>absurd hq (hQ c _ w)) (kY.same hn.1) fuel l a w (Region.free_spec hi hf) hr' (.inr ⟨by subst hb; simp [Region.wanted,qA ha.toAg0 hj hv],rfl⟩) hc hS ?_
  rw [hl]
  exact h (hl ▸ hc.step hr') (hl ▸ (kY.same hn.1 _ _).2 hS) _ (ha.put hd)
theorem KD {i j t:Nat} {b:Bool} {l':Array Bool} {rs:List (List Nat)} (hi:ops[i]? =some ⟨some d,op,ty,pos,aft,some (j,b)⟩) (hj:(ops[j]?).bind (·.dst)=some t) (hv:look F t=some undef) (hs:Region.noSelect ops=true) (hd:m3 d n=true)
    (hQ:bv Q) (hf:Region.free .any ops l i=true) (hr:(Region.ready .any ops l).contains i=true) (hw:ways ops i ks rs=true) (hl:l.setIfInBounds i true=l')
    (h:GW P ops Q (kY ks Good) fuel l' n ((d,undef)::F) w):GW P ops Q (kY ks Good) (fuel+1) l n F w:=fun hc hS a ha=>by
  have hn:=qh (l:=l) ks rs hw
  have hr':i ∈ Region.ready .any ops l:=by simpa using hr
  refine wpAnyS_first (v:=undef) hi (Region.noSelect_spec hs) (fun c a w hq=>absurd hq (hQ c _ w)) (kY.same hn.1) fuel l a w (Region.free_spec hi hf) hr' (.inr ⟨by simp [Region.wanted,ve ha.toAg0 hj hv],rfl⟩) hc hS ?_
  rw [hl]
  exact h (hl ▸ hc.step hr') (hl ▸ (kY.same hn.1 _ _).2 hS) _ (ha.put hd)
theorem Ck {i:Nat} (h:ks.contains i=false):i ∉ ks:=fun hm=>by rw [List.contains_iff_mem.2 hm] at h; cases h
theorem KN {i:Nat} {l':Array Bool} (hi:ops[i]? =some ⟨some d,op,ty,pos,aft,none⟩) (hs:Region.noSelect ops=true) (hd:m3 d n=true)
    (hQ:bv Q) (hf:Region.free .any ops l i=true) (hr:(Region.ready .any ops l).contains i=true) (hw:ks.contains i=false) (hl:l.setIfInBounds i true=l')
    (hy:∀ W,Yl P n F W op ty v) (h:GW P ops Q (kY ks Good) fuel l' n ((d,v)::F) w):GW P ops Q (kY ks Good) (fuel+1) l n F w:=fun hc hS a ha=>by
  have hn:=Ck hw
  have hr':i ∈ Region.ready .any ops l:=by simpa using hr
  refine wpAnyS_first (v:=v) hi (Region.noSelect_spec hs) (fun c a w hq=>absurd hq (hQ c _ w)) (kY.same hn) fuel l a w (Region.free_spec hi hf) hr' (.inl ⟨by simp [Region.wanted],fun W hW=>hy W a ha.toAg0 _ rfl rfl⟩) hc hS ?_
  rw [hl]
  exact h (hl ▸ hc.step hr') (hl ▸ (kY.same hn _ _).2 hS) _ (ha.put hd)
end
theorem wS {S':Array Bool→World→Prop} (hle:∀ l w,S' l w→S l w):∀ (fuel:Nat) (l:Array Bool) (a:Act) (w:World),wpAnyS P ops Q S' fuel l a w→wpAnyS P ops Q S fuel l a w
  | 0,_,_,_,h=>h
  | fuel+1,_,_,_,h=>⟨h.1,fun i hi=>wpOp_mono (fun a' w' h'=>⟨hle _ _ h'.1,wS hle fuel _ a' w' h'.2⟩) (h.2 i hi)⟩
theorem GW.more {ks:List Nat} {Good Good':World→Prop} (hle:∀ W,Good' W→Good W) (b:Good' w) (h:GW P ops Q (kY ks Good') fuel l n F w):GW P ops Q (kY ks Good) fuel l n F w:=fun hc _ a ha=>
  wS (S':=kY ks Good') (fun _ _ hs=>hs.imp id (hle _)) fuel l a w (h hc (.inr b) a ha)
theorem GW.do {i:Nat} {l':Array Bool} (hi:ops[i]? =some ⟨some d,op,ty,pos,aft,none⟩) (hd:m3 d n=true) (hr:Region.ready .any ops l= [i]) (hl:l.setIfInBounds i true=l')
    (h:Do P n F w op ty fun v w'=>S l' w'∧GW P ops Q S fuel l' n ((d,v)::F) w'):GW P ops Q S (fuel+1) l n F w:=fun hc hS a ha=>by
  refine⟨fun b=>(by rw [hr] at b; cases b),fun j hj=> ?_⟩
  have hcj:=hc.step hj
  rw [hr,m5] at hj
  subst hj
  unfold wpOp
  rw [hl] at hcj ⊢
  simp only [hi]
  rw [if_pos (by simp [Region.wanted])]
  exact .inl (h a ha.toAg0 _ rfl rfl _ _ fun v w' k=>⟨k.1,k.2 hcj k.1 _ (ha.put hd)⟩)
theorem KW {i:Nat} {l':Array Bool} (hi:ops[i]? =some ⟨none,op,ty,pos,aft,none⟩) (hr:Region.ready .any ops l= [i]) (hl:l.setIfInBounds i true=l')
    (h:Do P n F w op ty fun _ w'=>S l' w'∧GW P ops Q S fuel l' n F w'):GW P ops Q S (fuel+1) l n F w:=fun hc hS a ha=>by
  refine⟨fun b=>(by rw [hr] at b; cases b),fun j hj=> ?_⟩
  have hcj:=hc.step hj
  rw [hr,m5] at hj
  subst hj
  unfold wpOp
  rw [hl] at hcj ⊢
  simp only [hi]
  rw [if_pos (by simp [Region.wanted])]
  exact .inl (h a ha.toAg0 _ rfl rfl _ _ fun v w' k=>⟨k.1,k.2 hcj k.1 _ (ha.put0 v)⟩)
def GO (P:Program) (ops:Array Oper) (Q:Exit→Act→World→Prop) (S:Array Bool→World→Prop) (fuel:Nat) (l:Array Bool) (n:Nat) (F:List (Nat × Value)) (w:World) (i:Nat):Prop:=
  vg ops l→i ∈ Region.ready .any ops l→S l w→∀ a,Ag n F a→wpOp P ops Q i (fun a' w'=>S (l.setIfInBounds i true) w'∧wpAnyS P ops Q S fuel (l.setIfInBounds i true) a' w') a w
theorem GW.any {rs:List Nat} (hr:Region.ready .any ops l=rs) (hne:rs.isEmpty=false) (h:∀ i ∈ rs,GO P ops Q S fuel l n F w i):GW P ops Q S (fuel+1) l n F w:=fun hc hS a ha=>
  ⟨fun b=>(by rw [hr] at b; subst b; cases hne),fun j hj=>h j (hr ▸ hj) hc hj hS a ha⟩
theorem GO.do {i:Nat} {l':Array Bool} (hi:ops[i]? =some ⟨some d,op,ty,pos,aft,none⟩) (hd:m3 d n=true) (hl:l.setIfInBounds i true=l')
    (h:Do P n F w op ty fun v w'=>S l' w'∧GW P ops Q S fuel l' n ((d,v)::F) w'):GO P ops Q S fuel l n F w i:=fun hc hj hS a ha=>by
  have hcj:=hc.step hj
  unfold wpOp
  rw [hl] at hcj ⊢
  simp only [hi]
  rw [if_pos (by simp [Region.wanted])]
  exact .inl (h a ha.toAg0 _ rfl rfl _ _ fun v w' k=>⟨k.1,k.2 hcj k.1 _ (ha.put hd)⟩)
theorem KX {i:Nat} {l':Array Bool} (hi:ops[i]? =some ⟨none,op,ty,pos,aft,none⟩) (hl:l.setIfInBounds i true=l')
    (h:Do P n F w op ty fun _ w'=>S l' w'∧GW P ops Q S fuel l' n F w'):GO P ops Q S fuel l n F w i:=fun hc hj hS a ha=>by
  have hcj:=hc.step hj
  unfold wpOp
  rw [hl] at hcj ⊢
  simp only [hi]
  rw [if_pos (by simp [Region.wanted])]
  exact .inl (h a ha.toAg0 _ rfl rfl _ _ fun v w' k=>⟨k.1,k.2 hcj k.1 _ (ha.put0 v)⟩)
theorem KT (hr:Region.ready .any ops l= []) (h:Fin Q .normal n F w):GW P ops Q S fuel l n F w:=fun _ _ a ha=>by
  cases fuel with
  | zero=>exact⟨hr,h a ha⟩
  | succ k=>exact⟨fun _=>h a ha,by rw [hr]; simp⟩
end game
section ops
variable {P:Program} {n:Nat} {F:List (Nat × Value)} {w:World} {op:Op} {ty:TypeId} {v:Value} {K:Value→World→Prop}
def og (F:List (Nat × Value)) (x:Operand):Value:=(ev F x).getD undef
def known (F:List (Nat × Value)):List Operand→Bool
  | []=>true
  | x::r=>(ev F x).isSome && known F r
theorem sU {a:Act} (ha:Ag0 n F a):∀ {xs:List Operand},known F xs=true→∀ x ∈ xs,a.eval x=og F x
  | [],_,_,hx=>by cases hx
  | y::r,h,x,hx=>by
    simp only [known,Bool.and_eq_true] at h
    rcases List.mem_cons.1 hx with rfl | hx
    · obtain⟨v,hv⟩:=Option.isSome_iff_exists.1 h.1
      rw [ha.eval hv,og,hv]; rfl
    · exact sU ha h.2 x hx
def pI:Op→Bool
  | .select _ _=>false
  | _=>true
theorem uP (h:pI op=true):∀ cs b,op≠ .select cs b:=fun cs b e=>by subst e; cases h
theorem JI (hk:known F op.operands.toList=true) (b:pI op=true) (h:∀ W,(execOp (og F) ⟨none,op,ty, "", #[],none⟩).run P W= .ok (.value v) W):Yl P n F w op ty v:=fun a ha o c f=>by
  have hs:=uP b
  have e:execOp a.eval o=execOp (og F) o:=execOp_congr o (by rw [c]; exact hs) fun x hx=>sU ha hk x (by rw [c] at hx; simpa using hx)
  have g:execOp (og F) o=execOp (og F) ⟨none,op,ty, "", #[],none⟩:=by
    unfold execOp
    rw [c,f]
  rw [e,g]; exact h w
theorem IA {x:Operand} (hx:ev F x=some v):Yl P n F w (.move x) ty v:=fun a ha o b _=>by
  unfold execOp; rw [b]; simp [ha.eval hx]
theorem Jv {x:Operand} (hx:ev F x=some v):Yl P n F w (.assign x) ty v:=fun a ha o b _=>by
  unfold execOp; rw [b]; simp [ha.eval hx]
theorem Ir {k:IntKind} {e e':Int} (h:Yl P n F w op ty (.int k e)) (he:e=e'):Yl P n F w op ty (.int k e'):=by rw [← he]; exact h
theorem IM {e e':Bool} (h:Yl P n F w op ty (.bool e)) (he:e=e'):Yl P n F w op ty (.bool e'):=by rw [← he]; exact h
theorem Yl.to {v':Value} (h:Yl P n F w op ty v) (he:v=v'):Yl P n F w op ty v':=by rw [← he]; exact h
theorem Iw {c x y:Operand} {b:Bool} (hc:ev F c=some (.bool b)) (hb:b=true) (hx:ev F x=some v):Yl P n F w (.pick c x y) ty v:=fun a ha o e _=>by
  subst hb
  unfold execOp
  rw [e]
  simp [ha.eval hc,asBool,ha.eval hx]
theorem Io {c x y:Operand} {b:Bool} (hc:ev F c=some (.bool b)) (hb:b=false) (hy:ev F y=some v):Yl P n F w (.pick c x y) ty v:=fun a ha o e _=>by
  subst hb
  unfold execOp
  rw [e]
  simp [ha.eval hc,asBool,ha.eval hy]
theorem KY {S:Array Bool→World→Prop} {ops:Array Oper} {Q:Exit→Act→World→Prop} {fuel:Nat} {l:Array Bool} {pos:String} {aft:Array Edge} {d i j t:Nat} {b b':Bool} {l':Array Bool} (hi:ops[i]? =some ⟨some d,op,ty,pos,aft,some (j,b)⟩) (hj:(ops[j]?).bind (·.dst)=some t) (hv:look F t=some (.bool b')) (hb:b'=b) (hd:m3 d n=true) (hr:Region.ready .any ops l= [i]) (hl:l.setIfInBounds i true=l')
    (h:Do P n F w op ty fun v w'=>S l' w'∧GW P ops Q S fuel l' n ((d,v)::F) w'):GW P ops Q S (fuel+1) l n F w:=fun hc hS a ha=>by
  refine⟨fun c=>(by rw [hr] at c; cases c),fun j hj'=> ?_⟩
  have hcj:=hc.step hj'
  rw [hr,m5] at hj'
  subst hj'
  unfold wpOp
  rw [hl] at hcj ⊢
  simp only [hi]
  rw [if_pos (by subst hb; simp [Region.wanted,qA ha.toAg0 hj hv])]
  exact .inl (h a ha.toAg0 _ rfl rfl _ _ fun v w' k=>⟨k.1,k.2 hcj k.1 _ (ha.put hd)⟩)
end ops
end Go.Proofs.YtbkagebjhbphaaaGreat
