/-
  The library's slices in memory of the call's own: a row with its spare room as one; append, clear, copy within it; strings compared; slices that do not overlap.
  Conditions: none beyond each law's own.
-/
import Derived.Test.YtbkagebjhbphaaaGreatKl
import Derived.Lib.Bytealg
import Derived.Lib.Overlaps
import Derived.Lib.AppendZerosOnto
namespace Go.Proofs.YtbkagebjhbphaaaGreat
open List renaming all_eq_true→s9,append_assoc→q5,append_nil→s6,drop→r4,drop_append_of_le_length→u1,eq_nil_of_length_eq_zero→p3,flatMap→q4,flatMap_append→r5,flatMap_cons→q1,flatMap_nil→t8,getElem?_toArray→t4,length→s0,length_append→o2,length_drop→o1,length_take→o0,map_cons→t2,map_nil→t3,map_toArray→t1,take→r3,take_append_drop→s7,take_append_of_le_length→t6,take_left→t5,take_left'→u0,take_length→s8,take_take→t7
open Nat renaming add_mul→p4,eq_zero_or_pos→p2,le_refl→o4,min_eq_left→r6,mul_le_mul_right→m9,mul_pos→t0,one_mul→t9
set_option linter.unusedVariables false
set_option linter.unusedSimpArgs false
open Go.RowKit
section
variable {P:Program} {n:Nat} {F:List (Nat × Value)} {w0 w:World} {D:Nat→Prop} {L:List HP} {op:Op} {ty:TypeId} {v:Value} {K:Value→World→Prop} {x y:Operand} {T t:TypeId} {g o:Nat} {cs cs' xs vs ys news:List Value}
theorem KF {f:FuncId} {args:List Operand} {tys:Array TypeId} {a b:List UInt8} (hr:∀ (bs:Array Value) (W:World),(callFunc f bs).run P W=((Extern.BytealgCompare.compare bs).run P W).andThen fun v w'=> .ok (.value v) w') (ha:vE F args=some [.string ⟨a.toArray⟩, .string ⟨b.toArray⟩]):
    Yl P n F w (.call ⟨.value (.func f),args.toArray,tys⟩) ty (.int .i64 (Lib.compareBytes a b)):=fun ac hag o d _=>by
  unfold execOp
  rw [d]
  have he:=hag.evals ha
  simp [resolve,Act.eval,Deferred.ofValue,invoke,he,hr,Lib.run_compareString,Result.andThen]
theorem Own.rowFull {A:Option Addr} {m c sz:Nat} (H:Own w0 D w (row A m c xs t sz::L)):∃ sp:List Value,sp.length=(c - m) *sz∧Own w0 D w (row A c c (xs++sp) t sz::L):=by
  obtain⟨h,hR,f⟩:=H.get (i:=0) rfl
  have hle:=H.rowLe (i:=0) rfl
  rcases hR.2 with ⟨rfl,rfl,rfl⟩ | ⟨g,cur,fz,rfl,j,B,C,a,E,G⟩
  · exact⟨[],by simp,by rw [s6]; exact H⟩
  · have hcl:cur.toList.length=cur.size:=Array.length_toList
    refine⟨cur.toList.drop (m *sz),by rw [o1,hcl,a,Nat.sub_mul],H.upd rfl rfl rfl (o4 _) fun l ⟨I,p⟩ hk=> ?_⟩
    rcases p with ⟨e,_⟩ | ⟨g',cur',fz',e,b,J,q,r,d,s⟩
    · cases e
    · injection e with e
      injection e with e
      subst e
      have hcc:=hk g _ b
      rw [f g _ j] at hcc
      injection hcc with hcc
      injection hcc with u _ z
      subst u z
      refine⟨l,⟨?_, .inr ⟨g,cur,fz,rfl,b,o4 _,q,r, ?_,s⟩⟩,fun k o hk'=>⟨hk k o hk', .inl (by rw [hk']; exact Option.some_ne_none _)⟩,fun _ _ _=>rfl⟩
      · rw [← d,s7,hcl,a]
      · rw [← d,s7, ← a, ← hcl,s8]
theorem Own.rowPart {A:Option Addr} {m k c sz:Nat} (H:Own w0 D w (row A m c xs t sz::L)) (hk:k≤m) (hys:xs.take (k *sz)=ys):Own w0 D w (row A k c ys t sz::L):=H.rowTake hk hys
theorem Own.room {A:Option Addr} {c k m sz:Nat} {u:Value} {tx:TypeId} (H:Own w0 D w (row A c c xs t sz::L)) (hz:0 < sz) (hs:Src P sz tx u m news w) (hroom:k+m≤c):
    ∃ w',(match A with | some a=>storeCells (a.add (k *sz)) news 0 | none=>pure ()).run P w= .ok () w'∧Own w0 D w' (row A c c (put xs (k *sz) news) t sz::L):=by
  have hle:=H.rowLe (i:=0) rfl
  rcases p2 m with b | b
  · have hn:news= []:=p3 (by rw [hs.newsLen,b,Nat.zero_mul])
    subst hn
    have hp:put xs (k *sz) []=xs:=by simp [put]
    rw [hp]
    refine⟨w, ?_,H⟩
    cases A <;> rfl
  · have hc:0 < c:=by omega
    have hA:=(H.rds (i:=0) rfl).isSome hc
    have hl:news.length=m *sz:=hs.newsLen
    obtain⟨w',d,f⟩:=H.storeRow (P:=P) (vs:=news) (o:=k *sz) (by rw [s9]; exact fun u hu=>hs.one u hu) (by rw [hl]; exact t0 b hz) (by rw [hl,hle.2.2, ← p4]; exact m9 _ hroom) rfl
    refine⟨w', ?_,f⟩
    rw [hA]
    simp only [add0]
    exact d
theorem JM {A:Option Addr} {k c m e size bytes:Nat} {u:Value} {tx:TypeId} (el:Elem P t e size bytes) (H:Own w0 D w (row A c c xs e size::L)) (hx:ev F x=some (.slice A k c)) (hy:ev F y=some u) (hs:Src P size tx u m news w)
    (hroom:k+m≤c) {s:Nat} (hsum:k+m=s) (h:∀ w',Own w0 D w' (row A c c (put xs (k *size) news) e size::L)→K (.slice A s c) w'):
    Do P n F w (.call ⟨.builtin .append, [x,y].toArray, [t,tx].toArray⟩) ty K:=fun a ha o b d next Q hn=>by
  obtain⟨i,z,ht,hi,hz,rfl,rfl,hzs,hsz⟩:=el
  obtain⟨w',hst,H'⟩:=H.room (P:=P) hsz hs hroom
  unfold execOp
  rw [b]
  subst hsum
  have hrun:(Builtin.append_ #[t,tx] o.type #[.slice A k c,u]).run P w= .ok (.slice A (k+m) c) w':=by
    rcases hs.kind with ⟨e',hk⟩ | hk <;> cases A <;> simp [Builtin.append_,run_underlying ht,run_underlying hk,sizeOf,typeInfo,hi,hs.len,hroom,hs.cells] <;> simp at hst <;> first | (rw [hst]; rfl) | (subst hst; rfl) | (rw [hst])
  simp only [resolve,invoke,builtin,Sem.run_bind,Sem.run_pure,Result.andThen_ok,t1,t2,t3,ha.eval hx,ha.eval hy,hrun]
  exact hn _ _ (h w' H')
theorem JV {A Ad:Option Addr} {lo nd cd c e size bytes:Nat} {z0:Value} (b:(P.info? e).map (·.zero)=some (some z0)) (f:z0.cells.toList.all Value.oneCell'=true) (el:Elem P t e size bytes) (H:Own w0 D w (row A c c xs e size::L)) (hx:ev F x=some (.slice Ad nd cd)) (hA:0 < nd→Ad=some ⟨ab A,ao A+lo *size,none⟩) (hfit:lo+nd≤c)
    (h:∀ w' zs,zs.length=nd *size→Own w0 D w' (row A c c (put xs (lo *size) zs) e size::L)→K (.tuple #[]) w'):
    Do P n F w (.call ⟨.builtin .clear, [x].toArray, [t].toArray⟩) ty K:=fun a ha o k r next Q hn=>by
  obtain⟨i,z,ht,hi,hz,rfl,rfl,hzs,hsz⟩:=el
  have hle:=H.rowLe (i:=0) rfl
  have key:∃ w' zs,zs.length=nd *i.size∧(Builtin.clear_ #[t] o.type #[.slice Ad nd cd]).run P w= .ok (.tuple #[]) w'∧Own w0 D w' (row A c c (put xs (lo *i.size) zs) e i.size::L):=by
    rcases p2 nd with d | d
    · subst d
      refine⟨w, [],by simp, ?_,by simpa [put] using H⟩
      cases Ad <;> simp [Builtin.clear_,run_underlying ht]
    · have hAd:=hA d
      subst hAd
      have hzl:(Builtin.zeroCells z.cells nd).toList.length=nd *i.size:=by rw [Array.length_toList,o7,hzs]
      have hone:(Builtin.zeroCells z.cells nd).toList.all Value.oneCell'=true:=by
        have hzz:z=z0:=by
          rw [hi] at b
          simp only [Option.map_some,hz,Option.some.injEq] at b
          exact b
        subst hzz
        rw [s9]
        intro u hu
        simp only [Builtin.zeroCells] at hu
        simp at hu
        obtain⟨q,hq,rfl⟩:=hu
        have hlt:q % z.cells.size < z.cells.size:=Nat.mod_lt _ e6
        rw [getElem!_pos z.cells _ hlt]
        exact(s9.1 f) _ i7
      obtain⟨w',l,p⟩:=H.storeRow (P:=P) (vs:=(Builtin.zeroCells z.cells nd).toList) (o:=lo *i.size) hone (by rw [hzl]; exact t0 d hsz) (by rw [hzl,hle.2.2, ← p4]; exact m9 _ hfit) rfl
      refine⟨w',_,hzl, ?_,p⟩
      obtain⟨j,hj⟩:∃ j,nd=j+1:=⟨nd - 1,e6⟩
      subst hj
      simp [Builtin.clear_,run_underlying ht,zeroValue,typeInfo,hi,hz,l]
  obtain⟨w',zs,hzl,hrun,H'⟩:=key
  unfold execOp
  rw [k]
  simp only [resolve,invoke,builtin,Sem.run_bind,Sem.run_pure,Result.andThen_ok,t1,t2,t3,ha.eval hx,hrun]
  exact hn _ _ (h w' zs hzl H')
theorem Jn {A Ad B:Option Addr} {q c nd cd m cm lo k e size bytes:Nat} {tx:TypeId} (el:Elem P t e size bytes) (H:Own w0 D w (row A q c xs e size::L)) (hx:ev F x=some (.slice Ad nd cd)) (hA:0 < nd→Ad=some ⟨ab A,ao A+lo *size,none⟩) (hfit:lo+nd≤q)
    (hy:ev F y=some (.slice B m cm)) (hr:aY w size B m news) (hk:min m nd=k) (j:∀ u ∈ news.take (k *size),u.oneCell'=true) (hys:put xs (lo *size) (news.take (k *size))=ys) (h:∀ w',Own w0 D w' (row A q c ys e size::L)→K (.int .i64 (k:Int)) w'):
    Do P n F w (.call ⟨.builtin .copy, [x,y].toArray, [t,tx].toArray⟩) ty K:=fun a ha o l p next Q hn=>by
  obtain⟨i,z,ht,hi,hz,rfl,rfl,hzs,hsz⟩:=el
  have hfc:=uu (P:=P) (k:=k) (c:=cm) hr e6
  have hlen:(news.take (k *i.size)).length=k *i.size:=by
    rw [o0,hr.1]
    exact r6 (m9 _ e6)
  have hxl:=H.rowLe (i:=0) rfl
  have key:∃ w',(match Ad with | some a=>storeCells a (news.take (k *i.size)) 0 | none=>pure ()).run P w= .ok () w'∧Own w0 D w' (row A q c ys e i.size::L):=by
    rcases p2 k with d | d
    · subst d
      have f:news.take (0 *i.size)= []:=by simp
      rw [f] at hys ⊢
      have:ys=xs:=by rw [← hys]; simp [put]
      subst this
      refine⟨w, ?_,H⟩
      cases Ad <;> rfl
    · have hnd:0 < nd:=by omega
      have hAd:=hA hnd
      subst hAd
      have hpos:0 < (news.take (k *i.size)).length:=by rw [hlen]; exact t0 d hsz
      exact H.storeRow (P:=P) (by rw [s9]; exact fun u hu=>j u hu) hpos (by
        rw [hlen,hxl.2.2, ← p4]
        exact m9 _ e6) hys
  obtain⟨w',hst,H'⟩:=key
  unfold execOp
  rw [l]
  have hrun:(Builtin.copy_ #[t,tx] o.type #[.slice Ad nd cd, .slice B m cm]).run P w= .ok (.int .i64 (k:Int)) w':=by
    simp only [Builtin.copy_,t4,List.getElem?_cons_zero,List.getElem?_cons_succ,Sem.run_bind,run_underlying ht,Result.andThen_ok,Builtin.lenOf,Sem.run_pure,sizeOf,typeInfo]
    have hmin:Nat.min m nd=k:=hk
    simp [hi,hmin,hfc,Result.andThen]
    cases Ad with
    | none=>
      simp only [Sem.run_pure] at hst
      injection hst with _ hw
      subst hw
      rfl
    | some b=>
      simp only at hst
      simp [hst,Result.andThen,goInt]
  simp only [resolve,invoke,builtin,Sem.run_bind,Sem.run_pure,Result.andThen_ok,t1,t2,t3,ha.eval hx,ha.eval hy,hrun]
  exact hn _ _ (h w' H')
def qC (A:Option Addr) (m:Nat) (xs:List Value) (t:TypeId) (sz:Nat):HP:=fun h=>xs.length=m *sz∧∃ g,A=some ⟨g,0,none⟩∧h g=some (.cells xs.toArray t (0,0))
theorem JX {sz m:Nat} (H:Own w0 D w L) (hk:known F op.operands.toList=true) (b:pI op=true) (hr:∀ W,(execOp (og F) ⟨none,op,ty, "", #[],none⟩).run P W= .ok (.value (.slice (some ⟨W.heap.size,0,none⟩) m m)) (W.alloc (.cells cs.toArray t (0,0))))
    (hl:cs.length=m *sz) (h:∀ A w',Own w0 D w' (qC A m cs t sz::L)→K (.slice A m m) w'):Do P n F w op ty K:=fun a ha o d f next Q hn=>by
  have hs:=uP b
  have e:execOp a.eval o=execOp (og F) o:=execOp_congr o (by rw [d]; exact hs) fun x hx=>sU ha hk x (by rw [d] at hx; simpa using hx)
  have i:execOp (og F) o=execOp (og F) ⟨none,op,ty, "", #[],none⟩:=by
    unfold execOp
    rw [d,f]
  rw [e,i,hr w]
  exact hn _ _ (h _ _ (H.alloc _ ⟨hl,w.heap.size,rfl,by simp⟩))
theorem qW {A:Option Addr} {m sz:Nat} (w':World) (h:Nat→Option Obj) (hr:qC A m xs t sz h) (a:∀ k o,h k=some o→w'.heap[k]? =some o):aY w' sz A m xs:=by
  obtain⟨hl,g,rfl,hg⟩:=hr
  refine⟨hl,fun _=>⟨rfl,fun j u hj=> ?_⟩⟩
  show w'.cell? ⟨g,0+j,none⟩=some u
  rw [cell_of_row w' g (0+j) _ t (0,0) (a g _ hg),Nat.zero_add,t4]
  exact hj
theorem JN {f:FuncId} {args:List Operand} {tys:Array TypeId} {A B Bd:Option Addr} {m c nd cd tS tR e size lo:Nat} {zs:List Value} {b:TypeId} (hrun:∀ (bs:Array Value) (W:World),(callFunc f bs).run P W=((Extern.SlicesOverlaps.overlaps #[tS,tS] #[tR] bs).run P W).andThen fun v w'=> .ok (.value v) w') (ht:P.underlying tS=some (.slice e)) (hz:∀ w,(Go.sizeOf e).run P w= .ok size w)
    (H:Own w0 D w (qC A m zs t size::row B c c xs b size::L)) (hsz:0 < size) (hc:0 < c) (ha:vE F args=some [.slice A m m, .slice Bd nd cd]) (hB:Bd=some ⟨ab B,ao B+lo *size,none⟩):
    Yl P n F w (.call ⟨.value (.func f),args.toArray,tys⟩) ty (.bool false):=fun ac hag o j _=>by
  obtain⟨hh,hown,fs,d,h,k⟩:=H.own
  obtain⟨hl,g,rfl,hg⟩:=d 0 _ rfl
  have hgw:=(hown g _ (h 0 g _ hg)).1
  obtain⟨hxl,hR⟩:=d 1 _ rfl
  rcases hR with ⟨_,_,p⟩ | ⟨a,cur,fz,rfl,i,q,r,l,s,u⟩
  · omega
  have hg2w:=(hown a _ (h 1 a _ i)).1
  have hne:g≠a:=fun e=>by
    subst e
    rcases k 0 1 g f2 with e | e
    · rw [hg] at e; cases e
    · rw [i] at e; cases e
  subst hB
  have hpos:cur.size≠0:=by rw [l]; exact Nat.ne_of_gt (t0 hc hsz)
  have hov:=Lib.run_overlaps_apart (P:=P) w tS tR e ht size hz ⟨g,0,none⟩ ⟨a,lo *size,none⟩ m m nd cd hne t b zs.toArray.size cur.size (by simp [World.shape?,hgw]) (by simp [World.shape?,hg2w]) hpos (by simp [World.frozen?,hgw]) (by simp [World.frozen?,hgw])
  unfold execOp
  rw [j]
  have he:=hag.evals ha
  simp only [ab,ao,Nat.zero_add] at he
  simp [resolve,Act.eval,Deferred.ofValue,invoke,he,hrun,hov,Result.andThen]
theorem JJ {A:Option Addr} {q k c m e size bytes:Nat} {tn:TypeId} {kn kq:IntKind} (el:Elem P t e size bytes) (htn:P.underlying tn=some (.int kn)) (H:Own w0 D w (row A q c xs e size::L)) (hx:ev F x=some (.slice A k c)) (hy:ev F y=some (.int kq (m:Int)))
    (hkq:k≤q) (hg:c < k+m) (hm:0 < m) (hb:Nat.ble bytes 1048576=true) (hbytes:k+m≤9223372036854775807∧(k+m) *bytes≤211106232532992) {s:Nat} (hsum:k+m=s)
    (h:∀ A' c' zs w',zs.length=m *size→Own w0 D w' (row A' s c' (xs.take (k *size)++zs) e size::row A q c xs e size::L)→K (.slice A' s c') w'):
    Do P n F w (.call ⟨.builtin .append, [x,y].toArray, [t,tn].toArray⟩) ty K:=fun a ha o d l next Q hn=>by
  obtain⟨i,z,ht,hi,hz,rfl,rfl,hzs,hsz⟩:=el
  have hle:=H.rowLe (i:=0) rfl
  have hkl:(xs.take (k *i.size)).length=k *i.size:=by rw [o0,hle.2.2]; exact r6 (m9 _ hkq)
  have hR:aY w i.size A k (xs.take (k *i.size)):=by
    have:=(H.rds (i:=0) rfl).sub (k:=0) (m:=k) (A':=A) e6 (fun hk=>by rw [Nat.zero_mul,Nat.add_zero]; exact(H.rds (i:=0) rfl).isSome e6)
    simpa using this
  have hold:(Builtin.firstCells i.size k (.slice A k c)).run P w.drew= .ok (xs.take (k *i.size)).toArray w.drew:=by
    rcases p2 k with b | b
    · subst b
      cases A <;> simp [Builtin.firstCells] <;> rfl
    · rw [hR.isSome b]
      exact run_firstCells_some w.drew i.size k _ k c _ hkl fun j v hj=>by
        rw [add0]; exact hR.cell hj
  have hr:=Lib.run_append_grow_zeros (P:=P) w t tn o.type e i z kq kn ht htn hi hz A k c _ hold m hm hsz hg e6 (Nat.le_trans (m9 _ (by omega:m≤k+m)) e6) (growslice_fits_wide hg (yR hbytes.2 hb))
  unfold execOp
  rw [d]
  simp only [resolve,invoke,builtin,Sem.run_bind,Sem.run_pure,Result.andThen_ok,t1,t2,t3,ha.eval hx,ha.eval hy,hr]
  subst hsum
  have hzl:(Builtin.zeroCells z.cells m).toList.length=m *i.size:=by rw [Array.length_toList,o7,hzs]
  have hge:=grownCap_ge w (k+m) c e
  refine hn _ _ (h _ _ (Builtin.zeroCells z.cells m).toList _ hzl (H.drew.alloc _ ⟨by rw [o2,hkl,hzl,p4], .inr ⟨w.heap.size,_,(0,0),rfl,by simp; rfl,hge,grownCap_le_maxLen w (k+m) c e (by unfold maxLen; omega), ?_, ?_,vk.zero _⟩⟩))
  · rw [Array.size_append,Array.size_append,o7,o7,hzs,List.size_toArray,hkl, ← p4, ← p4]
    congr 1
    omega
  · have f:(k+m) *i.size=(xs.take (k *i.size)++(Builtin.zeroCells z.cells m).toList).length:=by rw [o2,hkl,hzl,p4]
    rw [f,Array.toList_append,Array.toList_append, ← q5]
    exact t5
end
section
variable {P:Program} {n:Nat} {F:List (Nat × Value)} {w:World} {ty T e sz bytes m c:Nat} {A:Option Addr} {x:Operand}
end
section
variable {α:Type} {enc:α→List Value} {sz:Nat}
theorem wW {a v:List Value} {o k:Nat} (h:k≤o) (ho:o≤a.length):(put a o v).take k=a.take k:=by
  unfold put
  rw [q5,t6 (by rw [o0]; omega),t7,r6 h]
theorem uj {a v:List Value} {o k:Nat} (ho:o≤a.length) (hk:k=o+v.length):(put a o v).take k=a.take o++v:=by
  subst hk
  unfold put
  have:o+v.length=(a.take o++v).length:=by rw [o2,o0]; omega
  rw [this]
  exact t5
theorem vF (hz:∀ x,(enc x).length=sz) {l:List α} {sp:List Value} {k:Nat} (hk:k≤l.length):(q4 enc l++sp).take (k *sz)=q4 enc (r3 k l):=by
  rw [t6 (by rw [jy hz]; exact m9 _ hk),oh hz]
theorem yS (hz:∀ x,(enc x).length=sz) {l:List α} {sp zs:List Value} {i j N:Nat} (hij:i≤j) (hj:j≤l.length) (hN:N=s0 (r3 i l++r4 j l)):
    r3 (N *sz) (put (put (q4 enc l++sp) (i *sz) (q4 enc (r4 j l))) (N *sz) zs)=q4 enc (r3 i l++r4 j l):=by
  have hN':N=i+(l.length - j):=by rw [hN,o2,o0,o1]; omega
  have a:i *sz≤l.length *sz:=m9 _ e6
  have b:N *sz≤l.length *sz:=m9 _ e6
  have hl:(q4 enc l++sp).length=l.length *sz+sp.length:=by rw [o2,jy hz]
  have hd:(q4 enc (r4 j l)).length=(l.length - j) *sz:=by rw [jy hz,o1]
  have hs:i *sz+(l.length - j) *sz=N *sz:=by rw [← p4,hN']
  rw [wW (o4 _) (by rw [sP (by rw [hl,hd]; omega),hl]; omega),uj (by rw [hl]; omega) (by rw [hd,hs]),vF hz e6, ← r5]
theorem zS (hz:∀ x,(enc x).length=sz) {l:List α} {x:α} {zs:List Value} {i N b k2:Nat} (hi:i≤l.length) (hzs:zs.length=(l.length+1 - i) *sz) (f:b=1) (a:k2=l.length - i) (hN:N=l.length+1):
    r3 (N *sz) (put (put ((q4 enc l).take (i *sz)++zs) (i *sz) ((q4 enc [x]).take (b *sz))) ((i+1) *sz) ((q4 enc (r4 i l)).take (k2 *sz)))=q4 enc (r3 i l++(x::r4 i l)):=by
  subst f a hN
  have hx:(q4 enc [x]).take (1 *sz)=enc x:=by
    simp only [q1,t8,s6,t9]
    rw [← hz x,s8]
  have hdl:(q4 enc (r4 i l)).length=(l.length - i) *sz:=by rw [jy hz,o1]
  rw [hx, ← hdl,s8,oh hz]
  have ht:(q4 enc (r3 i l)).length=i *sz:=by rw [jy hz,o0,r6 hi]
  have h:(i+1) *sz=i *sz+sz:=by rw [p4,t9]
  have j:(l.length+1 - i) *sz=(l.length - i) *sz+sz:=by rw [show l.length+1 - i=(l.length - i)+1 by omega,p4,t9]
  have d:(l.length+1) *sz=(i+1) *sz+(l.length - i) *sz:=by rw [← p4]; congr 1; omega
  have hput:(put (q4 enc (r3 i l)++zs) (i *sz) (enc x)).length=(l.length+1) *sz:=by
    rw [sP (by rw [o2,ht,hzs,hz]; omega),o2,ht,hzs,d]; omega
  rw [uj (by rw [hput]; omega) (by rw [hdl,d])]
  have a:(put (q4 enc (r3 i l)++zs) (i *sz) (enc x)).take ((i+1) *sz)=q4 enc (r3 i l)++enc x:=by
    rw [uj (by rw [o2,ht]; omega) (by rw [hz,h]),u0 ht]
  rw [a,r5,q1,q5]
theorem zT (hz:∀ x,(enc x).length=sz) {l:List α} {sp:List Value} {i k2 m:Nat} (hi:i≤l.length) (a:k2=l.length - i) (hm:l.length - i≤m):
    (((q4 enc l++sp).drop (i *sz)).take (m *sz)).take (k2 *sz)=q4 enc (r4 i l):=by
  subst a
  have hfl:(q4 enc l).length=l.length *sz:=jy hz l
  have hle:i *sz≤l.length *sz:=m9 _ hi
  rw [t7,r6 (m9 _ hm),u1 (by rw [hfl]; exact hle),rF hz]
  have:(l.length - i) *sz=(q4 enc (r4 i l)).length:=by rw [jy hz,o1]
  rw [this]
  exact t5
theorem zU (hz:∀ x,(enc x).length=sz) {l:List α} {x:α} {sp:List Value} {i N f k2 m:Nat} (hi:i≤l.length) (hsp:sz≤sp.length) (h:f=1) (j:k2=l.length - i) (hN:N=l.length+1) (hm:l.length - i≤m):
    r3 (N *sz) (put (put (q4 enc l++sp) ((i+1) *sz) ((((q4 enc l++sp).drop (i *sz)).take (m *sz)).take (k2 *sz))) (i *sz) ((q4 enc [x]).take (f *sz)))=q4 enc (r3 i l++(x::r4 i l)):=by
  subst h j hN
  have hx:(q4 enc [x]).take (1 *sz)=enc x:=by
    simp only [q1,t8,s6,t9]
    rw [← hz x,s8]
  have hfl:(q4 enc l).length=l.length *sz:=jy hz l
  have hle:i *sz≤l.length *sz:=m9 _ hi
  have hnews:(((q4 enc l++sp).drop (i *sz)).take (m *sz)).take ((l.length - i) *sz)=q4 enc (r4 i l):=by
    rw [t7,r6 (m9 _ hm),u1 (by rw [hfl]; exact hle),rF hz]
    have:(l.length - i) *sz=(q4 enc (r4 i l)).length:=by rw [jy hz,o1]
    rw [this]
    exact t5
  rw [hx,hnews]
  have hdl:(q4 enc (r4 i l)).length=(l.length - i) *sz:=by rw [jy hz,o1]
  have k:(i+1) *sz=i *sz+sz:=by rw [p4,t9]
  have p:(l.length+1) *sz=(i+1) *sz+(l.length - i) *sz:=by rw [← p4]; congr 1; omega
  have q:(l.length+1) *sz=l.length *sz+sz:=by rw [p4,t9]
  have hal:(q4 enc l++sp).length=l.length *sz+sp.length:=by rw [o2,hfl]

  have hA:∀ (a:List Value) (d b:List Value) (o:Nat),o+b.length+d.length≤a.length→r3 (o+b.length+d.length) (put (put a (o+b.length) d) o b)=a.take o++(b++d):=by
    intro a d b o hle
    have hl:(a.take (o+b.length)).length=o+b.length:=by rw [o0]; omega
    have hdrop:(put a (o+b.length) d).drop (o+b.length)=d++a.drop (o+b.length+d.length):=by
      unfold put
      rw [q5]
      exact List.drop_left' hl
    show r3 _ ((put a (o+b.length) d).take o++b++(put a (o+b.length) d).drop (o+b.length))=_
    rw [wW e6 e6,hdrop, ← q5,q5 (r3 o a)]
    exact u0 (by simp only [o2,o0]; omega)
  have hq:=hA (q4 enc l++sp) (q4 enc (r4 i l)) (enc x) (i *sz) (by rw [hdl,hz,hal]; omega)
  rw [hz,hdl] at hq
  rw [k,show (l.length+1) *sz=i *sz+sz+(l.length - i) *sz by omega,hq,vF hz hi,r5,q1]
end
theorem qi {α:Type} {enc:α→List Value} {sz:Nat} {w:World} {A:Option Addr} {ls:List α} {xs:List Value} (h:aY w sz A (s0 ls) xs) (hA:Option.isNone A=true):ls= []:=by
  rcases p2 (s0 ls) with e | e
  · exact p3 e
  · have:=h.isSome e
    rw [this] at hA
    cases hA
theorem ny (n k:Nat) (m:Int) (hm:m=((2 ^ k:Nat):Int)):Int.fdiv (n:Int) m=((n / 2 ^ k:Nat):Int):=by
  subst hm
  rw [Int.fdiv_eq_ediv_of_nonneg _ (Int.natCast_nonneg _)]
  rfl
end Go.Proofs.YtbkagebjhbphaaaGreat
