/-
  The steps that touch memory: loads, stores, new blocks, rows that are made, appended to, copied into; calls.
  Conditions: none beyond each law's own.
-/
import Derived.Test.YtbkagebjhbphaaaGreatKd
namespace Go.Proofs.YtbkagebjhbphaaaGreat
open List renaming eq_nil_of_length_eq_zero→p3,size_toArray→o3,toList_toArray→p5
open Nat renaming add_mul→p4,eq_zero_or_pos→p2,le_refl→o4
set_option linter.unusedVariables false
set_option linter.unusedSimpArgs false
open Go.RowKit
section
variable {P:Program} {n:Nat} {F:List (Nat × Value)} {w0 w:World} {D:Nat→Prop} {L:List HP} {op:Op} {ty:TypeId} {v:Value} {K:Value→World→Prop} {x y:Operand} {T t:TypeId} {g o:Nat} {cs cs' xs vs:List Value}
theorem IB {p:Addr} (hx:ev F x=some (.pointer (some p))) (hl:bJ P w T p v):Yl P n F w (.load T x) ty v:=fun a ha o' b _=>by
  unfold bJ at hl
  unfold execOp
  rw [b]
  simp only [ha.eval hx,Instr.loadAt,Instr.sureAddr,Sem.run_bind,Sem.run_pure,Result.andThen_ok,hl]
theorem J2 {p:Addr} {w':World} (hx:ev F x=some (.pointer (some p))) (hy:ev F y=some v) (hr:(storeVar T p v).run P w= .ok () w') (hk:K undef w'):Do P n F w (.store T x y) ty K:=fun a ha o' b _ next Q hn=>by
  unfold execOp
  rw [b]
  simp only [ha.eval hx,ha.eval hy,Instr.storeAt,Instr.sureAddr,Sem.run_bind,Sem.run_pure,Result.andThen_ok,hr]
  exact hn _ _ hk
theorem Do.store (H:Own w0 D w (blk g cs t::L)) (hx:ev F x=some (.pointer (some ⟨g,o,none⟩))) (hy:ev F y=some v) (hS:∀ W,(sizeOf T).run P W= .ok vs.length W) (hv:v.cells=vs.toArray) (a:vs.all Value.oneCell'=true) (hf:Nat.ble (o+vs.length) cs.length=true) (hc:put cs o vs=cs')
    (h:∀ w',Own w0 D w' (blk g cs' t::L)→K undef w'):Do P n F w (.store T x y) ty K:=by
  obtain⟨w',hr,H'⟩:=H.store (P:=P) a (Lj hf) hc
  exact J2 hx hy (JA hS hv hr) (h w' H')
theorem Do.storeRow {A:Option Addr} {m c sz q:Nat} {xs':List Value} (H:Own w0 D w (row A m c xs t sz::L)) (hx:ev F x=some (.pointer (some ⟨ab A,q,none⟩))) (hq:q=ao A+o) (hy:ev F y=some v) (hS:∀ W,(sizeOf T).run P W= .ok vs.length W) (hv:v.cells=vs.toArray) (a:vs.all Value.oneCell'=true)
    (hn:0 < vs.length) (hf:o+vs.length≤xs.length) (hc:put xs o vs=xs') (h:∀ w',Own w0 D w' (row A m c xs' t sz::L)→K undef w'):Do P n F w (.store T x y) ty K:=by
  subst hq
  obtain⟨w',hr,H'⟩:=H.storeRow (P:=P) a hn hf hc
  exact J2 hx hy (JA hS hv hr) (h w' H')
theorem Jb (H:Own w0 D w L) (hk:known F op.operands.toList=true) (b:pI op=true) (hr:∀ W,(execOp (og F) ⟨none,op,ty, "", #[],none⟩).run P W= .ok (.value (.pointer (some ⟨W.heap.size,0,none⟩))) (W.alloc (.cells cs.toArray t (0,0))))
    (h:∀ g w',Own w0 D w' (blk g cs t::L)→K (.pointer (some ⟨g,0,none⟩)) w'):Do P n F w op ty K:=fun a ha o c d next Q hn=>by
  have hs:=uP b
  have e:execOp a.eval o=execOp (og F) o:=execOp_congr o (by rw [c]; exact hs) fun x hx=>sU ha hk x (by rw [c] at hx; simpa using hx)
  have f:execOp (og F) o=execOp (og F) ⟨none,op,ty, "", #[],none⟩:=by
    unfold execOp
    rw [c,d]
  rw [e,f,hr w]
  exact hn _ _ (h _ _ (H.alloc _ ⟨(0,0),by simp,vk.zero _⟩))
theorem Jq {sz m:Nat} (H:Own w0 D w L) (hk:known F op.operands.toList=true) (b:pI op=true) (hr:∀ W,(execOp (og F) ⟨none,op,ty, "", #[],none⟩).run P W= .ok (.value (.slice (some ⟨W.heap.size,0,none⟩) m m)) (W.alloc (.cells cs.toArray t (0,0))))
    (hl:cs.length=m *sz) (hm:m≤4294967296) (h:∀ A w',Own w0 D w' (row A m m cs t sz::L)→K (.slice A m m) w'):Do P n F w op ty K:=fun a ha o c d next Q hn=>by
  have hs:=uP b
  have e:execOp a.eval o=execOp (og F) o:=execOp_congr o (by rw [c]; exact hs) fun x hx=>sU ha hk x (by rw [c] at hx; simpa using hx)
  have f:execOp (og F) o=execOp (og F) ⟨none,op,ty, "", #[],none⟩:=by
    unfold execOp
    rw [c,d]
  rw [e,f,hr w]
  refine hn _ _ (h _ _ (H.alloc _ ⟨hl, .inr ⟨w.heap.size,cs.toArray,(0,0),rfl,by simp,o4 _,by unfold maxLen; omega,by simpa using hl,by rw [← hl]; simp,vk.zero _⟩⟩))
def Elem (P:Program) (t e size bytes:Nat):Prop:=
  ∃ i z,P.underlying t=some (.slice e)∧P.info? e=some i∧i.zero=some z∧i.size=size∧i.bytes=bytes∧z.cells.size=size∧0 < size
theorem kT {t e size bytes:Nat} {z:Value} (ht:P.underlying t=some (.slice e)) (h:(P.info? e).map (fun i=>(i.zero,i.size,i.bytes))=some (some z,size,bytes)) (hz:z.cells.size=size) (hs:0 < size):Elem P t e size bytes:=by
  obtain⟨i,hi,a,b,c⟩:=info_parts h
  exact⟨i,z,ht,hi,a,b,c,hz,hs⟩
theorem K7 {t e size bytes:Nat} (el:Elem P t e size bytes):∃ i,P.info? e=some i∧i.size=size:=
  let ⟨i,_,_,h,_,h',_⟩:=el
  ⟨i,h,h'⟩
theorem Elem.und {t e size bytes:Nat} (el:Elem P t e size bytes):P.underlying t=some (.slice e):=let ⟨_,_,h,_⟩:=el; h
theorem Elem.pos {t e size bytes:Nat} (el:Elem P t e size bytes):0 < size:=let ⟨_,_,_,_,_,_,_,_,h⟩:=el; h
theorem o7 {z:Array Value} {n:Nat}:(Builtin.zeroCells z n).size=n *z.size:=by simp [Builtin.zeroCells]
theorem gN {size m c:Nat} {A:Option Addr} {tx e':TypeId} {news:List Value} (hk:P.underlying tx=some (.slice e')) (h:aY w size A m news) (b:∀ u ∈ news,u.oneCell'=true):Src P size tx (.slice A m c) m news w:=by
  rcases p2 m with rfl | hm
  · have hn:news= []:=p3 (by simpa using h.1)
    subst hn
    rcases A with _ | a
    · exact Src.ofNil w hk c
    · exact Src.ofSlice w hk a 0 c [] i7 i7 i7
  · rw [h.isSome hm]
    refine Src.ofSlice w hk _ m c news h.1 (fun j u hu=> ?_) b
    rw [add0]; exact h.cls hm j u hu
theorem Own.append {A:Option Addr} {k c m e size bytes:Nat} {news:List Value} {u:Value} {tx:TypeId} (el:Elem P t e size bytes) (H:Own w0 D w (row A k c xs e size::L)) (hs:Src P size tx u m news w) (ty:TypeId)
    (l:k+m≤maxLen) (hgs:∀ old,old < k+m→Builtin.nextslicecap (k+m) old *bytes≤281474976710656):
    ∃ A' c' w',(Builtin.append_ #[t,tx] ty #[.slice A k c,u]).run P w= .ok (.slice A' (k+m) c') w'∧Own w0 D w' (row A' (k+m) c' (xs++news) e size::L):=by
  obtain⟨i,z,ht,hi,hz,rfl,rfl,hzs,hsz⟩:=el
  obtain⟨h,hR,B⟩:=H.get (i:=0) rfl
  have hsmall:k+m≤9223372036854775807:=by simp only [maxLen] at l; omega
  have hxl:=hR.1
  have hlen:(xs++news).length=(k+m) *i.size:=by rw [List.length_append,hxl,hs.newsLen,p4]
  have grown:∀ (old:Nat) (R:HP),Own w0 D w (R::L)→Own w0 D (w.drew.alloc (.cells ((xs++news).toArray++Builtin.zeroCells z.cells (grownCap w (k+m) old e - (k+m))) e)) (row (some ⟨w.heap.size,0,none⟩) (k+m) (grownCap w (k+m) old e) (xs++news) e i.size::L):=by
    intro old R HR
    have hge:=grownCap_ge w (k+m) old e
    have hcm:grownCap w (k+m) old e≤maxLen:=grownCap_le_maxLen w (k+m) old e l
    have HL:Own w0 D w.drew L:=by
      have:=HR.drew
      obtain⟨q,r,f,C,E,G⟩:=this.own
      exact⟨this.os,this.tape,this.output,this.size,this.keep,q,r,fun j=>f (j+1),fun j S hj=>C (j+1) S (by simpa using hj),fun j=>E (j+1),fun a b kk hne=>G (a+1) (b+1) kk e6⟩
    refine HL.alloc _ ⟨hlen, .inr ⟨w.heap.size,_,(0,0),rfl,by simp; rfl,hge,hcm, ?_, ?_,vk.zero _⟩⟩
    · rw [Array.size_append,o7,hzs,o3,hlen, ← p4]
      congr 1
      omega
    · rw [Array.toList_append, ← hlen,p5]
      exact List.take_left
  rcases hR.2 with ⟨rfl,rfl,rfl⟩ | ⟨g,cur,fz,rfl,r,hnc,hcm,hcs,htake,hfz⟩
  · have hx:xs= []:=p3 (by simpa using hxl)
    subst hx
    by_cases hm:m=0
    · subst hm
      have hn:news= []:=p3 (by simpa using hs.newsLen)
      subst hn
      refine⟨none,0,w, ?_,H⟩
      have hc:=hs.cells
      rcases hs.kind with ⟨e',hk⟩ | hk <;> simp [Builtin.append_,run_underlying ht,run_underlying hk,sizeOf,typeInfo,hi,hs.len,hc,storeCells]
    · have hr:=run_append_grow_src (P:=P) w t tx ty e i z ht hi hz none 0 0 [] (by simp [Builtin.firstCells]) u m news hs e6 e6 (hgs 0 e6)
      exact⟨_,_,_,hr,grown 0 _ H⟩
  · have hg:=B g _ r
    by_cases hroom:k+m≤c
    · have hfit:k *i.size+news.length≤cur.size:=by rw [hs.newsLen,hcs, ← p4]; exact Nat.mul_le_mul_right _ hroom
      have hst:=nL (P:=P) g (k *i.size) e fz news 0 cur w hg (by simpa using hfit) hfz.no hs.one
      simp only [Nat.add_zero] at hst
      have hr:(Builtin.append_ #[t,tx] ty #[.slice (some ⟨g,0,none⟩) k c,u]).run P w= .ok (.slice (some ⟨g,0,none⟩) (k+m) c) (w.setRow g (cur.toList.take (k *i.size)++news++cur.toList.drop (k *i.size+news.length)).toArray):=by
        rcases hs.kind with ⟨e',hk⟩ | hk <;> simp [Builtin.append_,run_underlying ht,run_underlying hk,sizeOf,typeInfo,hi,hs.len,hroom,hs.cells,add0,hst]
      refine⟨_,_,_,hr,H.upd rfl rfl rfl (by simp [World.setRow]) fun N ⟨_,I⟩ hk=> ?_⟩
      rcases I with ⟨d,_⟩ | ⟨g',cur',fz',d,s,_,_,_,O,Q⟩
      · cases d
      · injection d with d
        injection d with d
        subst d
        have hcc:=hk g _ s
        rw [hg] at hcc
        injection hcc with hcc
        injection hcc with d _ J
        subst d J
        have hcl:cur.toList.length=cur.size:=Array.length_toList
        have hput:(put cur.toList (k *i.size) news).length=cur.size:=by rw [sP e6,hcl]
        refine⟨fun q=>if q=g then some (.cells (put cur.toList (k *i.size) news).toArray e fz) else none,⟨hlen, .inr ⟨g,(put cur.toList (k *i.size) news).toArray,fz,rfl,by simp,hroom,hcm,by rw [o3,hput,hcs], ?_,by rw [o3,hput]; exact hfz⟩⟩,fun q o' hk'=> ?_,fun q M p=> ?_⟩
        · rw [p5]
          unfold put
          rw [htake, ← hlen]
          exact List.take_left
        · by_cases e:q=g
          · subst e
            simp only [if_true,Option.some.injEq] at hk'
            subst hk'
            refine⟨?_, .inl (by rw [s]; exact Option.some_ne_none _)⟩
            rw [setRow_heap w q _ _ _ fz hg]
            simp [put]
          · simp only [e,if_false] at hk'; cases hk'
        · exact setRow_other w g q _ (fun e=>by subst e; rw [s] at p; cases p)
    · have hR':=H.rds (i:=0) rfl
      have hold:(Builtin.firstCells i.size k (.slice (some ⟨g,0,none⟩) k c)).run P w.drew= .ok xs.toArray w.drew:=run_firstCells_some w.drew i.size k ⟨g,0,none⟩ k c xs hxl (fun j v hj=>by
        have:=hR'.cell hj
        rw [add0]; exact this)
      have hr:=run_append_grow_src (P:=P) w t tx ty e i z ht hi hz (some ⟨g,0,none⟩) k c xs hold u m news hs e6 e6 (hgs c e6)
      exact⟨_,_,_,hr,grown c _ H⟩
theorem Do.append {A:Option Addr} {k c m e size bytes:Nat} {news:List Value} {u:Value} {tx:TypeId} (el:Elem P t e size bytes) (H:Own w0 D w (row A k c xs e size::L)) (hx:ev F x=some (.slice A k c)) (hy:ev F y=some u) (hs:Src P size tx u m news w)
    (b:k+m≤maxLen) (hbytes:(k+m) *bytes≤140737488355328) {s:Nat} {ys:List Value} (hsum:k+m=s) (hys:xs++news=ys) (h:∀ A' c' w',Own w0 D w' (row A' s c' ys e size::L)→K (.slice A' s c') w'):
    Do P n F w (.call ⟨.builtin .append, [x,y].toArray, [t,tx].toArray⟩) ty K:=fun a ha o d f next Q hn=>by
  obtain⟨A',c',w',hr,H'⟩:=H.append (P:=P) el hs o.type b fun _ ho'=>growslice_fits ho' hbytes
  unfold execOp
  rw [d]
  simp only [resolve,invoke,builtin,Sem.run_bind,Sem.run_pure,Result.andThen_ok,List.map_toArray,List.map_cons,List.map_nil,ha.eval hx,ha.eval hy,hr]
  subst hsum hys
  exact hn _ _ (h A' c' w' H')
theorem KU {k e size bytes:Nat} {lx cx:Operand} {kl kc:IntKind} {z:Value} (ht:P.underlying t=some (.slice e)) (hi:(P.info? e).map (fun i=>(i.zero,i.size,i.bytes))=some (some z,size,bytes)) (H:Own w0 D w L) (hl:ev F lx=some (.int kl (k:Int))) (hc:ev F cx=some (.int kc (k:Int)))
    (hb:bytes *k≤281474976710656) (hm:k≤maxLen) (h:∀ A w',Own w0 D w' (row A k k (madeCells z.cells (k *size)).toList e size::L)→K (.slice A k k) w'):Do P n F w (.makeSlice t lx cx) ty K:=fun a ha o c d next Q hn=>by
  obtain⟨i,b,hz,rfl,rfl⟩:=info_parts hi
  have hm':(k:Int)≤9223372036854775807:=by unfold maxLen at hm; omega
  have hb':(i.bytes:Int) *(k:Int)≤281474976710656:=by
    have h:((i.bytes *k:Nat):Int)≤281474976710656:=by omega
    rwa [Int.natCast_mul] at h
  have hr:=run_make (P:=P) w t e i z ht b hz kl kc k k e6 (Int.le_refl _) hb' hm'
  simp only [Int.toNat_natCast] at hr
  unfold execOp
  rw [c]
  simp only [ha.eval hl,ha.eval hc,Sem.run_bind,Sem.run_pure,Result.andThen_ok,hr]
  refine hn _ _ (h _ _ (H.alloc _ ⟨by rw [Array.length_toList,size_madeCells], .inr ⟨w.heap.size,_,(0,0),rfl,by simp; rfl,o4 _,hm,size_madeCells _ _,by rw [List.take_of_length_le (by rw [Array.length_toList,size_madeCells]; exact o4 _)],vk.zero _⟩⟩))
theorem IP {f:FuncId} {args:List Operand} {vals:List Value} {tys:Array TypeId} {R:Value→World→Prop} (hf:∀ (b:Array Value) W,(callFunc f b).run P W= .ok (.enter f b) W) (ha:vE F args=some vals) (hc:Calls P f vals.toArray w (dA R))
    (h:∀ v w',R v w'→K v w'):Do P n F w (.call ⟨.value (.func f),args.toArray,tys⟩) ty K:=fun a hag o c d next Q hn=>by
  have e:(execOp a.eval o).run P w= .ok (.enter f vals.toArray) w:=by
    unfold execOp
    rw [c]
    simp [resolve,Act.eval,Deferred.ofValue,invoke,hag.evals ha,hf]
  rw [e,Oper.upon_enter]
  exact hc.mono fun e w' hR=>by
    obtain⟨v,rfl,hk⟩:=hR
    exact hn _ _ (h _ _ hk)
theorem IY {fx:Operand} {f:FuncId} {args:List Operand} {vals:List Value} {first cap:Array Value} {tys:Array TypeId} {R:Value→World→Prop} (hf:∀ (b:Array Value) W,(callFunc f b).run P W= .ok (.enter f b) W) (hx:ev F fx=some (.func (.func f) first cap)) (ha:vE F args=some vals) (hc:Calls P f (first++vals.toArray++cap) w (dA R))
    (h:∀ v w',R v w'→K v w'):Do P n F w (.call ⟨.value fx,args.toArray,tys⟩) ty K:=fun a hag o c d next Q hn=>by
  have e:(execOp a.eval o).run P w= .ok (.enter f (first++vals.toArray++cap)) w:=by
    unfold execOp
    rw [c]
    simp [resolve,hag.eval hx,Deferred.ofValue,invoke,hag.evals ha,hf]
  rw [e,Oper.upon_enter]
  exact hc.mono fun e w' hR=>by
    obtain⟨v,rfl,hk⟩:=hR
    exact hn _ _ (h _ _ hk)
theorem Ki {src dst e:TypeId} {A:Option Addr} {m c:Nat} {l:List UInt8} (hs:P.underlying src=some (.slice e)) (he:P.underlying e=some (.int .u8)) (hd:P.underlying dst=some .string) (hr:aY w 1 A m (l.map fun b=>Value.int .u8 (b.toNat:Int))) (hx:ev F x=some (.slice A m c)):
    Yl P n F w (.convert src dst x) ty (.string ⟨l.toArray⟩):=fun a ha o d _=>by
  unfold execOp
  rw [d]
  have hml:l.length=m:=by simpa using hr.1
  have:(convert src dst (.slice A m c)).run P w= .ok (.string ⟨l.toArray⟩) w:=by
    rcases A with _ | b
    · have f:m=0:=by
        rcases p2 m with e | e
        · exact e
        · have:=hr.isSome e; cases this
      rw [run_convert_bytes_string w src dst e none m c hs he hd]
      have hx:l= []:=p3 e6
      subst hx
      simp [Conv.bytesToString]
      rfl
    · subst hml
      refine run_convert_bytes_back w src dst e b c l hs he hd fun j hj=> ?_
      have hb:=hr.isSome e6
      injection hb with hb
      rw [hb,add0]
      exact hr.cell (by rw [List.getElem?_map,List.getElem?_eq_getElem hj]; rfl)
  simp only [ha.eval hx,Sem.run_bind,Sem.run_pure,Result.andThen_ok,this]
end
end Go.Proofs.YtbkagebjhbphaaaGreat
