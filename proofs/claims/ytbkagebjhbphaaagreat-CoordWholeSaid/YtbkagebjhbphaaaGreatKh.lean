/-
  Arguments, opened: what the cells of a type read as.
  Conditions: none beyond each law's own.
-/
import Derived.Test.YtbkagebjhbphaaaGreatKg
import Derived.Test.YtbkagebjhbphaaaGreatRows
import Derived.Deep.Slices
import Derived.ChangeArms
import Derived.ChangeSame
import Derived.WideShapes
import Derived.SizedLaws
namespace Go.Proofs.YtbkagebjhbphaaaGreat
open List renaming getElem?_eq_getElem→p7,getElem?_eq_some_iff→p6,getElem?_map→s4,length→s0,length_cons→s1,length_map→s3,mem_append_left→s2
set_option linter.unusedVariables false
set_option linter.unusedSimpArgs false
open Go.RowKit Go.ChangeShapes Go.WideShapes Go.Deep
theorem Bu {α:Type} {Q:Nat→α→Prop}:∀ n,(∀ i,i < n→∃ o,Q i o)→∃ os:List α,os.length=n∧∀ i o,os[i]? =some o→Q i o
  | 0,_=>⟨[],rfl,fun i o h=>by simp at h⟩
  | n+1,h=>by
    obtain⟨os,hl,hq⟩:=Bu n fun i hi=>h i e6
    obtain⟨o,ho⟩:=h n e6
    refine⟨os++ [o],by simp [hl],fun i p hp=> ?_⟩
    by_cases e:i < n
    · rw [List.getElem?_append_left e6] at hp
      exact hq i p hp
    · rw [List.getElem?_append_right e6] at hp
      obtain⟨hk,rfl⟩:=p6.1 hp
      simp at hk
      have:i=n:=by omega
      subst this
      simpa using ho
abbrev Bk (α:Type):=HShiftLeft α Unit Nat
abbrev bk {α:Type} [Bk α] (x:α):Nat:=HShiftLeft.hShiftLeft x ()
instance:Bk Nat:=⟨fun _ _=>1⟩
instance:Bk Int:=⟨fun _ _=>1⟩
instance:Bk Bool:=⟨fun _ _=>1⟩
instance:Bk UInt8:=⟨fun _ _=>1⟩
instance:Bk (List UInt8):=⟨fun s _=>s0 s+1⟩
instance:Bk Unit:=⟨fun _ _=>0⟩
instance {α β:Type} [Bk α] [Bk β]:Bk (α × β):=⟨fun p _=>bk p.1+bk p.2⟩
theorem sV {H:Type} (d:DataW H):1≤Rows.uptoBulk d:=by
  cases d with
  | lit l=>cases l <;> simp [Rows.uptoBulk]
  | nil=>simp [Rows.uptoBulk]
  | ptr d=>simp [Rows.uptoBulk]
  | slice elems spare=>simp [Rows.uptoBulk]
  | agg parts=>simp [Rows.uptoBulk]
  | iface t d=>simp [Rows.uptoBulk]
  | map entries=>simp [Rows.uptoBulk]
  | held h=>simp [Rows.uptoBulk]
theorem zN {H:Type}:∀ l:List (DataW H),s0 l≤Rows.uptoBulkAll l
  | []=>by simp [Rows.uptoBulkAll]
  | x::r=>by
    have:=sV x
    have:=zN r
    simp only [Rows.uptoBulkAll,s1]
    omega
theorem zO {α H:Type} [Bk α]:∀ (os:List α) (D:Nat→DataW H),(∀ i o,os[i]? =some o→bk o≤Rows.uptoBulk (D i))→(os.map bk).sum≤Rows.uptoBulkAll ((List.range os.length).map D)
  | [],_,_=>Lp _
  | o::r,D,h=>by
    have a:=h 0 o rfl
    have:=zO r (fun i=>D (i+1)) fun i p hp=>h (i+1) p (by rw [List.getElem?_cons_succ]; exact hp)
    rw [s1,List.range_succ_eq_map]
    simp only [List.map_cons,List.map_map,List.sum_cons,Rows.uptoBulkAll]
    exact Nat.add_le_add a this
def ky {α:Type} [Bk α] (P:Program) (w:World) (t:TypeId) (sz:Nat) (enc:α→List Value) (Ok:α→Prop):Prop:=
  P.cellsOf t=sz∧(∀ x,(enc x).length=sz)∧∀ (H:Type) (e:TypeId × Value→H) (held:Bool) (fuel:Nat) (cs:List Value) (x:DataW H × List MemPlace),
    DataW.trod e P w 0 (fun _=>true) held fuel t cs=some x→(∀ m ∈ x.1.weights P t,m≤140737488351232)→∃ o,cs=enc o∧Ok o∧bk o≤Rows.uptoBulk x.1
structure Sv (β:Type) where
  A:Option Addr
  c:Nat
  ls:List β
instance {β:Type} [Bk β]:Bk (Sv β):=⟨fun s _=>(s.ls.map bk).sum+(s.c - s.ls.length)+1⟩
def I9 {β:Type} (s:Sv β):List Value:= [.slice s.A (s0 s.ls) s.c]
def mo {β:Type} (w:World) (sz bytes:Nat) (enc:β→List Value) (Ok:β→Prop) (s:Sv β):Prop:=
  s0 s.ls≤s.c∧s.c *bytes≤140737488351232∧aY w sz s.A (s0 s.ls) (List.flatMap enc s.ls)∧∀ y ∈ s.ls,Ok y
def eI (k:IntKind) (n:Int):List Value:= [.int k n]
def eN (k:IntKind) (n:Nat):List Value:= [.int k (n:Int)]
def eL (b:Bool):List Value:= [.bool b]
def eS (s:List UInt8):List Value:= [.string ⟨List.toArray s⟩]
theorem iL {k:IntKind}:∀ x,(eI k x).length=1:=fun _=>rfl
theorem rG {k:IntKind}:∀ x,(eN k x).length=1:=fun _=>rfl
theorem pV:∀ x,(eL x).length=1:=fun _=>rfl
theorem zP:∀ x,(eS x).length=1:=fun _=>rfl
theorem FE {v:Value} (h:v.oneCell'=true):∀ u ∈ [v],u.oneCell'=true:=fun u hu=>by rw [List.mem_singleton.1 hu]; exact h
theorem qB {k:IntKind}:∀ x, ∀ u ∈ eI k x,u.oneCell'=true:=fun _=>FE rfl
section
variable {P:Program} {w:World} {t e:TypeId}
theorem Bv {k:IntKind} {n:Int} (h:(Lit.int k n).wf=true):k.min≤n∧n≤k.max:=by
  simpa [Lit.wf] using h
theorem o8 {k:IntKind} {lo hi:Int} (hu:P.underlying t=some (.int k)) (hc:P.cellsOf t=1) (a:k.min=lo) (b:k.max=hi):ky P w t 1 (eI k) fun n=>lo≤n∧n≤hi:=
  ⟨hc,iL,fun H e held fuel cs x h _=>by
    obtain⟨n,rfl,_,hw⟩:=DataW.trod_int hu h
    subst a b
    exact⟨n,rfl,Bv hw,sV _⟩⟩
theorem ol {k:IntKind} {hi:Nat} (hu:P.underlying t=some (.int k)) (hc:P.cellsOf t=1) (a:k.min=0) (b:k.max=(hi:Int)):ky P w t 1 (eN k) fun n=>n≤hi:=
  ⟨hc,rG,fun H e held fuel cs x h _=>by
    obtain⟨n,rfl,_,hw⟩:=DataW.trod_int hu h
    have:=Bv hw
    rw [a,b] at this
    refine⟨n.toNat, ?_,e6,sV _⟩
    unfold eN
    rw [show ((n.toNat:Nat):Int)=n by omega]⟩
theorem Co (hu:P.underlying t=some .bool) (hc:P.cellsOf t=1):ky P w t 1 eL fun _=>True:=
  ⟨hc,pV,fun H e held fuel cs x h _=>by
    obtain⟨b,rfl,_⟩:=DataW.trod_bool hu h
    exact⟨b,rfl,trivial,sV _⟩⟩
theorem lU (hu:P.underlying t=some .string) (hc:P.cellsOf t=1):ky P w t 1 eS fun s=>s0 s≤140737488351232:=
  ⟨hc,zP,fun H e held fuel cs x h hs=>by
    obtain⟨s,rfl,hx,_⟩:=DataW.trod_string hu h
    refine⟨s.data.toList, ?_,hs _ (by rw [hx]; simp [DataW.weights]),by rw [hx]; exact Nat.le_of_eq rfl⟩
    simp [eS]⟩
theorem uw {H:Type} {d:DataW H} {m:Nat}:∀ {ds:List (DataW H)},d ∈ ds→m ∈ d.weights P e→m ∈ DataW.weightsAll P e ds
  | [],h,_=>by cases h
  | x::r,h,hm=>by
    unfold DataW.weightsAll
    rcases List.mem_cons.1 h with rfl | h
    · exact s2 _ hm
    · exact List.mem_append_right _ (uw h hm)
theorem nC {β:Type} [Bk β] {sz bytes:Nat} {enc:β→List Value} {Ok:β→Prop} (hu:P.underlying t=some (.slice e)) (hc:P.cellsOf t=1) (hb:P.bytesOf e=bytes) (hz:0 < sz) (he:ky P w e sz enc Ok):ky P w t 1 I9 (mo w sz bytes enc Ok):=
  ⟨hc,fun _=>rfl,fun H e' held fuel cs x h hs=>by
    obtain⟨hC,hE,hop⟩:=he
    rcases open_slice hu h with ⟨rfl,_⟩ | ⟨a,len,cap,m,n,D,Pl,rfl,_,hl,hm,hmm,hx,hi⟩
    · exact⟨⟨none,0, []⟩,rfl,⟨Nat.le_refl _,by simp,aY.nil _ _ _,fun y hy=>by cases hy⟩,sV _⟩
    · have hmm:m=cap:=by rw [hmm]; simp
      subst hmm
      rw [hx] at hs
      have f:m *bytes≤140737488351232:=by
        have:=hs ((len+(m - len)) *P.bytesOf e) (by simp [DataW.weights,hu])
        rw [hb,show len+(m - len)=m by omega] at this
        exact this
      have g:∀ i,i < len→∀ k ∈ (D i).weights P e,k≤140737488351232:=fun i hil k hk=>by
        refine hs k ?_
        simp only [DataW.weights,hu]
        refine List.mem_cons_of_mem _ (s2 _ (uw (d:=D i) ?_ hk))
        rw [List.mem_map]
        exact⟨i,List.mem_range.2 hil,rfl⟩
      have each:∀ i,i < len→∃ o:β,w.cells? 0 (a.add (i *sz)) sz=some (enc o)∧Ok o∧bk o≤Rows.uptoBulk (D i):=fun i hil=>by
        obtain⟨cs',hcc,ht⟩:=hi i e6
        rw [hC] at hcc
        obtain⟨o,rfl,ho⟩:=hop _ _ _ _ _ _ ht (g i hil)
        exact⟨o,hcc,ho⟩
      obtain⟨os,hol,hos⟩:=Bu len each
      obtain⟨b,off,spot⟩:=a
      subst hol
      refine⟨⟨some ⟨b,off,spot⟩,m,os⟩,rfl,⟨hl,f,⟨jy hE os,fun hn=> ?_⟩,fun y hy=> ?_⟩, ?_⟩
      · have hsp:spot=none:=by
          obtain⟨z,A,_⟩:=each 0 hn
          obtain⟨_,_,hat⟩:=World.cells?_some A
          have c:=hat 0 hz
          rw [Nat.zero_mul] at c
          have B:(Addr.add (Addr.add ⟨b,off,spot⟩ 0) 0)=⟨b,off,spot⟩:=by simp [Addr.add]
          rw [B] at c
          have hex:∃ v,(enc z)[0]? =some v:=⟨_,p7 (by rw [hE]; exact hz)⟩
          obtain⟨v,hv⟩:=hex
          rw [hv] at c
          exact World.cell?_spot c
        subst hsp
        refine⟨rfl,fun j u hj=> ?_⟩
        have hjl:=(p6.1 hj).1
        rw [jy hE] at hjl
        have hd:j / sz < os.length:=Nat.div_lt_of_lt_mul (by rw [Nat.mul_comm]; exact hjl)
        have hr:j % sz < sz:=Nat.mod_lt _ hz
        have ej:j=j / sz *sz+j % sz:=by rw [Nat.mul_comm]; exact(Nat.div_add_mod j sz).symm
        have hoi:=hos (j / sz) _ (p7 hd)
        have hv:(enc os[j / sz])[j % sz]? =some ((enc os[j / sz])[j % sz]'(by rw [hE]; exact hr)):=p7 _
        have hfl:=wB (enc:=enc) hE (p7 hd) hv
        rw [← ej,hj] at hfl
        injection hfl with hfl
        obtain⟨_,_,hat⟩:=World.cells?_some hoi.1
        have l:=hat (j % sz) hr
        rw [Go.Deep.add_add,hv, ← ej] at l
        rw [hfl]
        show w.cell? ⟨b,off+j,none⟩=_
        rw [← l,add0]
      · obtain⟨i,q,s⟩:=List.getElem_of_mem hy
        exact(hos i y (by rw [p7 q,s])).2.1
      · rw [hx]
        have l:=zO os D fun i o h=>(hos i o h).2.2
        have C:=zN (H:=H) ((List.range (m - os.length)).map fun i=>D (os.length+i))
        rw [s3,List.length_range] at C
        show (os.map bk).sum+(m - os.length)+1≤Rows.uptoBulk (.slice _ _)
        simp only [Rows.uptoBulk]
        omega⟩
def gH {α:Type} [Bk α] (P:Program) (w:World) (fs:Array Field) (i off sz:Nat) (enc:α→List Value) (Ok:α→Prop):Prop:=
  (∀ x,(enc x).length=sz)∧∀ (H:Type) (e:TypeId × Value→H) (held:Bool) (n:Nat) (cs:List Value) (ys:List (DataW H × List MemPlace)),
    (∀ (j:Nat) (f:Field),fs[j]? =some f→DataW.trod e P w 0 (fun _=>true) held n f.type ((cs.drop f.offset).take (P.cellsOf f.type))=ys[j]?)→ys.length=fs.size→
    (∀ (j:Nat) (f:Field) y,fs[j]? =some f→ys[j]? =some y→∀ m ∈ y.1.weights P f.type,m≤140737488351232)→cs.length=off+sz→∃ o,cs.drop off=enc o∧Ok o∧bk o≤Rows.uptoBulkAll ((ys.map (·.1)).drop i)
theorem gH.nil {fs:Array Field} {i off:Nat}:gH P w fs i off 0 (fun _:Unit=> []) fun _=>True:=
  ⟨fun _=>rfl,fun H e held n cs ys _ _ _ hl=>⟨(),by rw [List.drop_eq_nil_of_le e6],trivial,Lp _⟩⟩
theorem gH.cons {α β:Type} [Bk α] [Bk β] {fs:Array Field} {i off s sz:Nat} {enc:α→List Value} {Ok:α→Prop} {enc':β→List Value} {Ok':β→Prop} {f:Field} (hf:fs[i]? =some f) (ho:f.offset=off) (a:ky P w f.type s enc Ok)
    (g:gH P w fs (i+1) (off+s) sz enc' Ok'):gH P w fs i off (s+sz) (fun p:α × β=>enc p.1++enc' p.2) fun p=>Ok p.1∧Ok' p.2:=
  ⟨fun x=>by rw [List.length_append,a.2.1,g.1],fun H e held n cs ys ht hy hw hl=>by
    obtain⟨b,j,k2,k⟩:=g.2 H e held n cs ys ht hy hw e6
    have hi:i < fs.size:=by
      rcases Nat.lt_or_ge i fs.size with h | h
      · exact h
      · rw [Array.getElem?_eq_none h] at hf; cases hf
    have hyi:ys[i]? =some (ys[i]'(by rw [hy]; exact hi)):=p7 _
    have hti:=ht i f hf
    rw [hyi,ho,a.1] at hti
    obtain⟨c,l,m,o⟩:=a.2.2 H e held n _ _ hti (hw i f _ hf hyi)
    refine⟨(c,b), ?_,⟨m,k2⟩, ?_⟩
    rotate_left
    · have hi':i < (ys.map (·.1)).length:=by rw [s3,hy]; exact hi
      rw [List.drop_eq_getElem_cons hi',List.getElem_map]
      show bk c+bk b≤_
      simp only [Rows.uptoBulkAll]
      exact Nat.add_le_add o k
    show List.drop off cs=enc c++enc' b
    rw [← l, ← j, ← List.drop_drop,List.take_append_drop]⟩
theorem mQ {α:Type} [Bk α] {fs:Array Field} {sz:Nat} {enc:α→List Value} {Ok:α→Prop} (hu:P.underlying t=some (.struct fs)) (hc:P.cellsOf t=sz) (h:gH P w fs 0 0 sz enc Ok):ky P w t sz enc Ok:=
  ⟨hc,h.1,fun H e held fuel cs x hx hs=>by
    obtain⟨ys,n,_,rfl,hl,hy,ht⟩:=DataW.trod_struct hu hx
    have hw:∀ (j:Nat) (f:Field) y,fs[j]? =some f→ys[j]? =some y→∀ m ∈ y.1.weights P f.type,m≤140737488351232:=fun j f y hj hyj m hm=>by
      refine hs m ?_
      simp only [DataW.weights,hu]
      exact DataW.weights_mem_each (j:=j) (by rw [s4,Array.getElem?_toList,hj]; rfl) (by rw [s4,hyj]; rfl) m hm
    obtain⟨o,a,b,c⟩:=h.2 H e held n cs ys ht hy hw (by rw [hl,hc,Nat.zero_add])
    refine⟨o,by rw [← a,List.drop_zero],b, ?_⟩
    rw [List.drop_zero] at c
    show bk o≤Rows.uptoBulk (.agg _)
    simp only [Rows.uptoBulk]
    omega⟩
theorem ky.map {α β:Type} [Bk α] [Bk β] {sz:Nat} {enc:α→List Value} {Ok:α→Prop} {enc':β→List Value} {Ok':β→Prop} (h:ky P w t sz enc Ok) (g:α→β) (hl:∀ x,(enc' x).length=sz) (he:∀ o,enc o=enc' (g o)) (hk:∀ o,Ok o→Ok' (g o)) (hb:∀ o,bk (g o)≤bk o):ky P w t sz enc' Ok':=
  ⟨h.1,hl,fun H e held fuel cs x hx hs=>by
    obtain⟨o,rfl,k,b⟩:=h.2.2 H e held fuel cs x hx hs
    exact⟨g o,he o,hk o k,Nat.le_trans (hb o) b⟩⟩
variable {α:Type} [Bk α] {sz:Nat} {enc:α→List Value} {Ok:α→Prop} {H:Type} {en:TypeId × Value→H} {held:Bool} {v:Value} {d:DataW H} {p:List MemPlace} {r:Reach} {b0:Nat}
theorem ky.one (h:ky P w t sz enc Ok) (hd:DataW.Trod en P w 0 (fun _=>true) held t v d p) (hs:∀ m ∈ d.weights P t,m≤140737488351232):∃ o,v.cells.toList=enc o∧Ok o∧bk o≤Rows.uptoBulk d:=by
  obtain⟨fuel,hf⟩:=hd
  exact h.2.2 H en held fuel _ _ hf hs
theorem ky.arg1 (h:ky P w t 1 enc Ok) (hd:DataW.Trod en P w 0 (fun _=>true) held t v d p) (hs:∀ m ∈ d.weights P t,m≤140737488351232) (hv:v.cells= #[v]):∃ o,enc o= [v]∧Ok o∧bk o≤Rows.uptoBulk d:=by
  obtain⟨o,e,k⟩:=h.one hd hs
  exact⟨o,by rw [← e,hv],k⟩
theorem ky.argSlice (h:ky P w t 1 enc Ok) (hu:P.underlying t=some (.slice e)) (hv:Value.okWide P w r b0 t v) (hd:DataW.Trod en P w 0 (fun _=>true) held t v d p) (hs:∀ m ∈ d.weights P t,m≤140737488351232):∃ o,enc o= [v]∧Ok o∧bk o≤Rows.uptoBulk d:=by
  obtain⟨_,_,_,rfl⟩:=okWide_slice hu hv
  exact h.arg1 hd hs rfl
theorem ky.argStruct {fs:Array Field} (h:ky P w t sz enc Ok) (hu:P.underlying t=some (.struct fs)) (hv:Value.okWide P w r b0 t v) (hd:DataW.Trod en P w 0 (fun _=>true) held t v d p) (hs:∀ m ∈ d.weights P t,m≤140737488351232):∃ o,v= .agg (enc o).toArray∧Ok o∧bk o≤Rows.uptoBulk d:=by
  obtain⟨cs,rfl,_⟩:=okWide_struct hu hv
  obtain⟨o,e,k⟩:=h.one hd hs
  have e:cs.toList=enc o:=e
  exact⟨o,by rw [← e],k⟩
theorem zQ {ts:List TypeId} {ds:List (DataW H)} (h:(DataW.weightsEach P ts ds).all (· ≤reachBytes)=true) {j:Nat} (ht:ts[j]? =some t) (hd:ds[j]? =some d):∀ m ∈ d.weights P t,m≤140737488351232:=fun m hm=>by
  have:=List.all_eq_true.1 h _ (DataW.weights_mem_each ht hd m hm)
  exact of_decide_eq_true this
end
end Go.Proofs.YtbkagebjhbphaaaGreat
