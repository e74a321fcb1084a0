/-
  Owners, spans, what is cut: as the program tells them they are the document's. Conditions: none beyond each law's own.
-/
import Derived.Test.YtbkagebjhbphaaaGreatRf
import Derived.Test.YtbkagebjhbphaaaGreatSpanM
import Derived.Test.YtbkagebjhbphaaaGreatCoW
namespace Go.Proofs.YtbkagebjhbphaaaGreat
open List renaming cons_append→V6,drop→r4,getElem?_drop→m7,getElem?_eq_getElem→p7,getElem?_eq_some_iff→p6,length→s0,length_drop→o1,length_nil→E7,take→r3
open Nat renaming le_refl→o4
set_option linter.unusedVariables false
set_option linter.unusedSimpArgs false
set_option linter.unusedSectionVars false
theorem GL (a:List UInt8): ¬ a < a:=List.lt_irrefl a
theorem H6 {a b c:List UInt8} (d:a < b) (e:b < c):a < c:=List.lt_trans d e
theorem sN {a b:List UInt8}: ¬ a < b↔b≤a:=List.not_lt
theorem CF {a b:List UInt8}: ¬ a≤b↔b < a:=List.not_le
theorem GM {a:List UInt8}: []≤a:=List.nil_le a
def rV (k:List UInt8):Prop:=1≤s0 k∧s0 k≤12
theorem zH (k:List UInt8):dR k=iO k:=rfl
theorem sO {k:List UInt8}:dR k=0↔rV k:=by
  unfold dR rV
  split
  · constructor
    · intro h; cases h
    · intro h; omega
  · split
    · constructor
      · intro h; cases h
      · intro h; omega
    · exact⟨fun _=>by omega,fun _=>rfl⟩
theorem CG {k:List UInt8}:dR k=0∨dR k=20:=by
  unfold dR
  split
  · exact .inr rfl
  · split
    · exact .inr rfl
    · exact .inl rfl
theorem tV {k:List UInt8}:k≠ []↔1≤k.length:=by cases k <;> simp
theorem yx {n:Int}:mr n=true↔1≤n∧n≤4:=by
  unfold mr
  by_cases h:n ≥ 1
  · rw [if_pos h,decide_eq_true_eq]; omega
  · rw [if_neg h]; constructor
    · intro q; cases q
    · intro q; omega
theorem BX (l:List aM):∀ (q:List aM) (k:Nat),fo l q k=iZ l q k
  | [],k=>rfl
  | x::q,k=>by
    rw [fo,iZ]
    simp only [dw, ← zH,BX l q]
    by_cases h:mr x.bE=true
    · have a:=yx.1 h
      rw [if_pos h,if_neg (show ¬ x.bE < 1 by omega),if_neg (show ¬ x.bE > 4 by omega)]
    · have a:x.bE < 1∨x.bE > 4:=by
        have: ¬ (1≤x.bE∧x.bE≤4):=fun q=>h (yx.2 q)
        omega
      rw [if_neg h]
      rcases a with a | a
      · rw [if_pos a]
      · by_cases b:x.bE < 1
        · rw [if_pos b]
        · rw [if_neg b,if_pos a]
theorem DI (l:List aM):jc l=pG l:=by
  unfold jc pG
  simp only [dw,BX]
theorem Ba (l:List aM) (i:Int):kv l i=kX l i:=rfl
structure oZ (l:List aM):Prop where
  len:1≤l.length∧l.length≤6
  first:∀ x,l[0]? =some x→x.aJ= []
  CQ:∀ x ∈ l,1≤x.bE∧x.bE≤4
  key:∀ (i:Nat) (x:aM),l[i+1]? =some x→rV x.aJ
  rise:∀ (i:Nat) (x y:aM),l[i]? =some x→l[i+1]? =some y→x.aJ < y.aJ
theorem ER (l:List aM):∀ (q:List aM) (k:Nat),r4 k l=q→(fo l q k= .inl ()∨fo l q k= .inr 170)∧(fo l q k= .inl ()↔
    (∀ x ∈ q,1≤x.bE∧x.bE≤4)∧(∀ (i:Nat) (x:aM),k≤i+1→l[i+1]? =some x→rV x.aJ)∧(∀ (i:Nat) (x y:aM),k≤i+1→l[i]? =some x→l[i+1]? =some y→x.aJ < y.aJ))
  | [],k,h=>by
    have hl:l.length≤k:=by
      have:=congrArg s0 h
      rw [o1] at this
      simp only [E7] at this
      omega
    refine⟨.inl rfl,fun _=>⟨fun x hx=>(by cases hx),fun i x hi hx=> ?_,fun i x y hi hx hy=> ?_⟩,fun _=>rfl⟩
    · have:=(p6.1 hx).1; omega
    · have:=(p6.1 hy).1; omega
  | x::q,k,h=>by
    have hx:l[k]? =some x:=by
      have e:(r4 k l)[0]? =some x:=by rw [h]; rfl
      rwa [m7,Nat.add_zero] at e
    have ih:=ER l q (k+1) (by rw [← List.drop_drop,h]; rfl)
    rw [fo]
    simp only [dw]
    by_cases c:mr x.bE=true
    · rw [if_pos c]
      have hs:=yx.1 c
      by_cases f:((k:Nat):Int) > 0
      · rw [if_pos f]
        obtain⟨j,rfl⟩:∃ j,k=j+1:=⟨k - 1,e6⟩
        obtain⟨y,hy⟩:∃ y,l[j]? =some y:=⟨_,p7 (by have:=(p6.1 hx).1; omega)⟩
        have hd:List.getD l (j+1 - 1) default=y:=by rw [Nat.add_sub_cancel,aT hy]
        rw [hd]
        rcases CG (k:=x.aJ) with e | e
        · rw [if_pos e]
          by_cases d:x.aJ≤y.aJ
          · rw [if_pos d]
            refine⟨.inr rfl,fun q=>(by cases q),fun q=> ?_⟩
            exact absurd (q.2.2 j y x e6 hy hx) (sN.2 d)
          · rw [if_neg d]
            refine⟨ih.1,ih.2.trans ⟨fun q=>⟨fun z hz=> ?_,fun i z hi hz=> ?_,fun i a b hi ha hb=> ?_⟩,fun q=>⟨fun z hz=>q.1 z (.tail _ hz),fun i z hi hz=>q.2.1 i z e6 hz,fun i a b hi ha hb=>q.2.2 i a b e6 ha hb⟩⟩⟩
            · rcases List.mem_cons.1 hz with rfl | hz
              · exact hs
              · exact q.1 z hz
            · by_cases hij:i=j
              · subst hij; rw [hx] at hz; cases hz; exact sO.1 e
              · exact q.2.1 i z e6 hz
            · by_cases hij:i=j
              · subst hij; rw [hx] at hb; cases hb; rw [hy] at ha; cases ha; exact CF.1 d
              · exact q.2.2 i a b e6 ha hb
        · rw [if_neg (by rw [e]; decide)]
          refine⟨.inr rfl,fun q=>(by cases q),fun q=> ?_⟩
          have:=sO.2 (q.2.1 j x e6 hx)
          rw [e] at this; cases this
      · rw [if_neg f]
        obtain rfl:k=0:=by omega
        refine⟨ih.1,ih.2.trans ⟨fun q=>⟨fun z hz=> ?_,fun i z hi hz=>q.2.1 i z e6 hz,fun i a b hi ha hb=>q.2.2 i a b e6 ha hb⟩,fun q=>⟨fun z hz=>q.1 z (.tail _ hz),fun i z hi hz=>q.2.1 i z e6 hz,fun i a b hi ha hb=>q.2.2 i a b e6 ha hb⟩⟩⟩
        rcases List.mem_cons.1 hz with rfl | hz
        · exact hs
        · exact q.1 z hz
    · rw [if_neg c]
      exact⟨.inr rfl,fun q=>(by cases q),fun q=>absurd (yx.2 (q.1 x b1)) c⟩
theorem ww {l:List aM}:jc l=0↔oZ l:=by
  unfold jc
  by_cases f:((s0 l:Nat):Int) < 1
  · rw [if_pos f]; exact⟨fun q=>(by cases q),fun q=>by have:=q.len; omega⟩
  rw [if_neg f]
  by_cases g:((s0 l:Nat):Int) > 6
  · rw [if_pos g]; exact⟨fun q=>(by cases q),fun q=>by have:=q.len; omega⟩
  rw [if_neg g,dw]
  obtain⟨x,hx⟩:∃ x,l[0]? =some x:=⟨_,p7 e6⟩
  rw [aT hx]
  by_cases d:x.aJ≠ []
  · rw [if_pos d]; exact⟨fun q=>(by cases q),fun q=>absurd (q.first x hx) d⟩
  rw [if_neg d]
  obtain⟨hb,hL⟩:=ER l l 0 rfl
  have h:lp (fo l l 0) (fun _=>0)=0↔fo l l 0= .inl ():=by
    rcases hb with e | e <;> rw [e]
    · exact⟨fun _=>rfl,fun _=>rfl⟩
    · exact⟨fun q=>(by cases q),fun q=>(by cases q)⟩
  rw [h,hL]
  constructor
  · rintro ⟨a,b,c⟩
    exact⟨e6,fun y hy=>(by rw [hx] at hy; cases hy; exact Decidable.not_not.1 d),a,fun i y hy=>b i y e6 hy,fun i y z hy hz=>c i y z e6 hy hz⟩
  · intro q
    exact⟨q.CQ,fun i y _ hy=>q.key i y hy,fun i y z _ hy hz=>q.rise i y z hy hz⟩
structure BZ (l:List aM) (k:List UInt8) (j:Nat):Prop where
  lt:j < l.length
  iff:∀ (i:Nat) (x:aM),l[i]? =some x→(x.aJ≤k↔i≤j)
theorem oZ.mono {l:List aM} (h:oZ l):∀ (d i:Nat) (x y:aM),l[i]? =some x→l[i+d+1]? =some y→x.aJ < y.aJ
  | 0,i,x,y,hx,hy=>h.rise i x y hx hy
  | d+1,i,x,y,hx,hy=>by
    obtain⟨z,hz⟩:∃ z,l[i+d+1]? =some z:=⟨_,p7 (by have:=(p6.1 hy).1; omega)⟩
    exact H6 (h.mono d i x z hx hz) (h.rise (i+d+1) z y hz hy)
theorem oZ.lt {l:List aM} (h:oZ l) {i j:Nat} {x y:aM} (hx:l[i]? =some x) (hy:l[j]? =some y) (hij:i < j):x.aJ < y.aJ:=
  h.mono (j - i - 1) i x y hx (by rw [show i+(j - i - 1)+1=j by omega]; exact hy)
theorem Fx {a b c:List UInt8} (d:a < b) (e:b≤c):a≤c:=List.le_trans (List.le_of_lt d) e
theorem oZ.pos {l:List aM} (h:oZ l) (k:List UInt8):∃ j,BZ l k j:=by
  have key:∀ n,n≤l.length→1≤n→∃ j,j < n∧∀ (i:Nat) (x:aM),i < n→l[i]? =some x→(x.aJ≤k↔i≤j):=by
    intro n
    induction n with
    | zero=>intro _ a; omega
    | succ n ih=>
      intro hn _
      by_cases a:n=0
      · subst a
        refine⟨0,e6,fun i x hi hx=> ?_⟩
        obtain rfl:i=0:=by omega
        rw [h.first x hx]
        exact⟨fun _=>o4 _,fun _=>GM⟩
      · obtain⟨j,hj,hh⟩:=ih e6 e6
        obtain⟨y,hy⟩:∃ y,l[n]? =some y:=⟨_,p7 e6⟩
        by_cases hk:y.aJ≤k
        · refine⟨n,e6,fun i x hi hx=>⟨fun _=>by omega,fun _=> ?_⟩⟩
          by_cases hin:i=n
          · subst hin; rw [hy] at hx; cases hx; exact hk
          · exact Fx (h.lt hx hy e6) hk
        · refine⟨j,e6,fun i x hi hx=> ?_⟩
          by_cases hin:i=n
          · subst hin; rw [hy] at hx; cases hx
            exact⟨fun q=>absurd q hk,fun q=>by omega⟩
          · exact hh i x e6 hx
  obtain⟨j,hj,hh⟩:=key l.length (o4 _) h.len.1
  exact⟨j,hj,fun i x hx=>hh i x (p6.1 hx).1 hx⟩
theorem yO {l:List aM} {k:List UInt8} {j:Nat} (h:BZ l k j):∀ (q:List aM) (i a:Nat),r4 i l=q→jB k q a i=if i≤j then j else a
  | [],i,a,hd=>by
    have hl:l.length≤i:=by
      have:=congrArg s0 hd
      rw [o1] at this
      simp only [E7] at this
      omega
    rw [if_neg (by have:=h.lt; omega)]; rfl
  | x::q,i,a,hd=>by
    have hx:l[i]? =some x:=by
      have e:(r4 i l)[0]? =some x:=by rw [hd]; rfl
      rwa [m7,Nat.add_zero] at e
    have b:r4 (i+1) l=q:=by rw [← List.drop_drop,hd]; rfl
    rw [jB]
    by_cases hk:x.aJ≤k
    · have:=(h.iff i x hx).1 hk
      rw [if_pos hk,yO h q (i+1) i b,if_pos this]
      by_cases c:i+1≤j
      · rw [if_pos c]
      · rw [if_neg c]; omega
    · have c: ¬ i≤j:=fun q=>hk ((h.iff i x hx).2 q)
      rw [if_neg hk,yO h q (i+1) a b,if_neg c,if_neg e6]
theorem xB {l:List aM} {k:List UInt8} {j:Nat} (h:BZ l k j):qc l k=((j:Nat):Int):=by
  unfold qc
  rw [dw,yO h l 0 0 rfl,if_pos (Lp _)]
theorem kK {k:List UInt8}:rV k↔M.K k:=Iff.rfl
theorem yP {r:aL}:iB r=0↔M.R r.aJ r.aR:=by
  have a:=sO (k:=r.aJ); have b:=sO (k:=r.aR)
  have la:=tV (k:=r.aJ); have lb:=tV (k:=r.aR)
  have nn:= @sN r.aJ r.aR
  unfold iB M.R
  rw [← kK, ← kK]
  simp only [bnd]
  by_cases f:r.aJ= []
  · by_cases d:r.aR= []
    · simp [f,d]
    · by_cases c:dR r.aR=0
      · have g:=M.nil_lt d
        have i: ¬ r.aR≤ []:=fun q=>sN.2 q g
        simp [f,d,c,b.1 c,g,i]
      · have h3': ¬ rV r.aR:=fun q=>c (b.2 q)
        simp [f,d,c,h3']
  · by_cases e:dR r.aJ=0
    · by_cases d:r.aR= []
      · simp [f,d,e,a.1 e]
      · by_cases c:dR r.aR=0
        · by_cases h:r.aR≤r.aJ
          · simp [f,d,c,e,h,a.1 e,b.1 c]
          · simp [f,d,c,e,h,a.1 e,b.1 c]; grind
        · have h3': ¬ rV r.aR:=fun q=>c (b.2 q)
          simp [f,d,c,e,h3']
    · have h0': ¬ rV r.aJ:=fun q=>e (a.2 q)
      simp [f,e,h0']
theorem CJ {r:aL}:iB r=0∨iB r=21:=by
  unfold iB; simp only [bnd]
  repeat' split
  all_goals first | exact .inl rfl | exact .inr rfl
theorem tX {r:aL}:gF r=0↔M.R r.aJ r.aR:=by
  have la:=tV (k:=r.aJ); have lb:=tV (k:=r.aR)
  have nn:= @sN r.aJ r.aR
  have a:r.aR≠ []→ [] < r.aR:=M.nil_lt
  have b:r.aR≠ []→¬ r.aR≤ []:=fun h q=>sN.2 q (a h)
  unfold gF M.R M.K
  by_cases c:r.aJ= [] <;> by_cases d:r.aR= [] <;> by_cases e:((s0 r.aJ:Nat):Int) > 12 <;> by_cases f:((s0 r.aR:Nat):Int) > 12 <;> by_cases g:r.aR≤r.aJ <;> simp_all <;> grind
theorem GN {r:aL}:gF r=0∨gF r=21:=by
  unfold gF
  repeat' split
  all_goals first | exact .inl rfl | exact .inr rfl
theorem ES (r:aL):iB r=gF r:=by
  have h:=(yP (r:=r)).trans tX.symm
  rcases CJ (r:=r) with a | a <;> rcases GN (r:=r) with b | b <;> simp_all
theorem Gn {r:aL} {k:List UInt8}:uK r k=true↔M.H r.aJ r.aR k:=by
  unfold uK M.H M.B
  simp only [bnd]
  have a:=tX (r:=r); have b:=sO (k:=k)
  rw [zH,kK] at b
  rw [← a, ← b]
  by_cases c:gF r=0 <;> by_cases d:iO k=0 <;> by_cases e:r.aJ≤k <;> by_cases f:r.aR= [] <;> simp [c,d,e,f]
theorem yw (a b:List UInt8):oK a b=M.ls a b:=by
  unfold oK M.ls
  by_cases c:a= []
  · rw [if_pos c,if_pos c]
  · rw [if_neg c,if_neg c]
    by_cases d:b= []
    · rw [if_neg (fun q=>q d),if_pos d]
    · rw [if_pos d,if_neg d]
theorem ET (a b:List UInt8):jK a b=M.mx a b:=rfl
theorem Gp {a b:List UInt8}:qL a b=true↔M.B a b:=by
  unfold qL M.B
  by_cases c:b= []
  · rw [if_pos c]; exact⟨fun _=> .inl c,fun _=>rfl⟩
  · rw [if_neg c,decide_eq_true_eq]; exact⟨.inr,fun h=>h.resolve_left c⟩
theorem EU {r s:aL} (h:M.M r.aJ r.aR s.aJ s.aR):kJ r s=(aL.mk (M.mx r.aJ s.aJ) (M.ls r.aR s.aR),true):=by
  unfold kJ
  simp only [dw,yw,ET]
  rw [if_pos (yP.2 h.1),if_pos (yP.2 h.2.1),if_pos (Gp.2 h.2.2)]
theorem EW {r s:aL} (h: ¬ M.M r.aJ r.aR s.aJ s.aR):kJ r s=(aL.mk [] [],false):=by
  unfold kJ
  simp only [dw,yw,ET]
  by_cases a:iB r=0
  · by_cases b:iB s=0
    · rw [if_pos a,if_pos b,if_neg (fun q=>h ⟨yP.1 a,yP.1 b,Gp.1 q⟩)]
    · rw [if_pos a,if_neg b]
  · rw [if_neg a]
theorem GQ {r s:aL}:nz r s=true↔M.C r.aJ r.aR s.aJ s.aR:=by
  rw [M.C_iff]
  unfold nz om
  simp only [dw]
  have a:=tX (r:=r); have b:=tX (r:=s)
  have nn:= @sN r.aR s.aR
  rw [← a, ← b]
  by_cases c:gF r=0 <;> by_cases d:gF s=0 <;> by_cases e:r.aJ≤s.aJ <;> by_cases f:r.aR= [] <;> by_cases g:s.aR= [] <;> by_cases h:r.aR < s.aR <;> simp_all
def ui (l:List aM) (i:Nat):List UInt8:=match l[i+1]? with
  | some y=>y.aJ
  | none=> []
theorem xC {l:List aM} {i:Nat} {x:aM} (hx:l[i]? =some x):kv l ((i:Nat):Int)=aL.mk x.aJ (ui l i):=by
  unfold kv ui
  simp only [dw]
  rw [show Int.toNat ((i:Nat):Int)=i from rfl,aT hx]
  by_cases h:((i:Nat):Int)+1 < ((s0 l:Nat):Int)
  · obtain⟨y,hy⟩:∃ y,l[i+1]? =some y:=⟨_,p7 e6⟩
    rw [if_pos h,show Int.toNat (((i:Nat):Int)+1)=i+1 by omega,aT hy,hy]
  · rw [if_neg h,List.getElem?_eq_none e6]
theorem oZ.R {l:List aM} (h:oZ l) {i:Nat} {x:aM} (hx:l[i]? =some x):M.R x.aJ (ui l i):=by
  unfold ui
  refine⟨?_, ?_⟩
  · cases i with
    | zero=>exact .inl (h.first x hx)
    | succ i=>exact .inr (h.key i x hx)
  · cases e:l[i+1]? with
    | none=>exact .inl rfl
    | some y=>exact .inr ⟨h.key i y e,h.rise i x y hx e⟩
theorem oZ.has {l:List aM} (h:oZ l) {k:List UInt8} {i j:Nat} {x:aM} (hk:rV k) (hp:BZ l k j) (hx:l[i]? =some x):M.H x.aJ (ui l i) k↔i=j:=by
  have c:=hp.iff i x hx
  unfold M.H M.B
  constructor
  · rintro ⟨_,_,a,b⟩
    have:=c.1 a
    unfold ui at b
    cases e:l[i+1]? with
    | none=>have:=hp.lt; have:=List.getElem?_eq_none_iff.1 e; omega
    | some y=>
      rw [e] at b
      have d:=hp.iff (i+1) y e
      rcases b with b | b
      · have:=h.key i y e; rw [show y.aJ= [] from b] at this; exact absurd this.1 i7
      · have: ¬ i+1≤j:=fun q=>sN.2 (d.2 q) b
        omega
  · rintro rfl
    refine⟨h.R hx,hk,c.2 (o4 _), ?_⟩
    unfold ui
    cases e:l[i+1]? with
    | none=>exact .inl rfl
    | some y=>exact .inr (CF.1 fun q=>absurd ((hp.iff (i+1) y e).1 q) e6)
theorem Gq {l:List aM} (h:oZ l) {k:List UInt8} {j:Nat} (hk:rV k) (hp:BZ l k j):∀ (q i:Nat),i+q=l.length→i≤j→mO l k q i= .inr ((j:Nat):Int)
  | 0,i,hd,hi=>by have:=hp.lt; omega
  | q+1,i,hd,hi=>by
    rw [mO]
    obtain⟨x,hx⟩:∃ x,l[i]? =some x:=⟨_,p7 e6⟩
    simp only [dw]
    have e:=h.has hk hp hx
    rw [← Ba,xC hx]
    by_cases hij:i=j
    · subst hij; rw [if_pos (Gn.2 (e.2 rfl))]
    · rw [if_neg (fun q=>hij (e.1 (Gn.1 q)))]
      exact Gq h hk hp q (i+1) e6 e6
theorem Gr {l:List aM} (h:oZ l) {k:List UInt8} {j:Nat} (hk:rV k) (hp:BZ l k j):uN l k=((j:Nat):Int):=by
  unfold uN
  rw [Gq h hk hp l.length 0 e6 e6]; rfl
theorem DJ:∀ {b:List UInt8},(∀ x ∈ b,x.toNat=255)→M.nx b= []
  | [],_=>rfl
  | x::b,h=>by
    unfold M.nx
    rw [if_pos (DJ fun y hy=>h y (List.mem_cons_of_mem _ hy)),if_pos (h x i7)]
theorem DK {b:List UInt8} (hb:M.nx b= []):∀ a:List UInt8,M.nx (a++b)=M.nx a
  | []=>hb
  | x::a=>by
    rw [V6]
    unfold M.nx
    rw [DK hb a]
theorem Ca {x:UInt8} (hx:x.toNat≠255):∀ p:List UInt8,M.nx (p++ [x])=p++ [x+1]
  | []=>by simp [M.nx,hx]
  | a::p=>by
    rw [V6]
    unfold M.nx
    rw [Ca hx p,if_neg i7]
    rfl
theorem Cb (k:List UInt8):∀ (f n:Nat),n < f→n≤k.length→(∀ j x,k[j]? =some x→n≤j→x.toNat=255)→
    ∃ t,ni k f n=t∧t≤n∧(∀ j x,k[j]? =some x→t≤j→x.toNat=255)∧(t=0∨∃ x,k[t - 1]? =some x∧x.toNat≠255)
  | 0,n,h,_,_=>by omega
  | f+1,n,h,hl,hq=>by
    unfold ni
    simp only [bnd]
    by_cases g:((n:Nat):Int) > 0
    · obtain⟨x,hx⟩:∃ x,k[n - 1]? =some x:=⟨_,p7 e6⟩
      rw [if_pos g,aT hx]
      by_cases i:((x.toNat:Nat):Int)=255
      · rw [if_pos i]
        obtain⟨t,a,b,c,d⟩:=Cb k f (n - 1) e6 e6 fun j y hy hj=>by
          rcases Nat.lt_or_ge j n with e | e
          · have:j=n - 1:=by omega
            subst this
            rw [hx] at hy
            cases hy
            omega
          · exact hq j y hy e
        exact⟨t,a,e6,c,d⟩
      · rw [if_neg i]
        exact⟨n,rfl,o4 _,hq, .inr ⟨x,hx,e6⟩⟩
    · rw [if_neg g]
      exact⟨n,rfl,o4 _,hq, .inl e6⟩
def ph (k:List UInt8):List UInt8:=if k.length < 12 then k++ [0] else M.nx k
theorem GR {k:List UInt8} (hk:rV k):rT k=(aL.mk k (ph k),0):=by
  have hc:iO k=0:=sO.2 hk
  unfold rT ph
  rw [dw,hc,if_pos rfl]
  by_cases f:k.length < 12
  · rw [if_pos e6,if_pos f]
  · rw [if_neg e6,if_neg f,dw,dw]
    have hl:k.length=12:=by have:=hk.2; omega
    obtain⟨t,a,b,c,d⟩:=Cb k 13 12 e6 e6 fun j x hx hj=>by
      have:=(p6.1 hx).1; omega
    rw [show (12:Nat)+1=13 from rfl,a]
    have hkt:k=r3 t k++r4 t k:=(List.take_append_drop t k).symm
    have e:M.nx (r4 t k)= []:=DJ fun x hx=>by
      obtain⟨j,hj⟩:=List.mem_iff_getElem?.1 hx
      rw [m7] at hj
      exact c _ x hj e6
    have hn:M.nx k=M.nx (r3 t k):=by conv=>lhs; rw [hkt]
                                                  exact DK e _
    rcases d with d | ⟨x,hx,d⟩
    · subst d
      rw [if_pos f2,hn]; rfl
    · by_cases g:t=0
      · subst g
        rw [if_pos f2,hn]; rfl
      · rw [if_neg e6,dw,aT hx,hn]
        have:r3 t k=r3 (t - 1) k++ [x]:=by
          obtain⟨q,rfl⟩:∃ q,t=q+1:=⟨t - 1,e6⟩
          obtain⟨hq,rfl⟩:=p6.1 hx
          exact List.take_succ_eq_append_getElem hq
        rw [this,Ca d]
theorem GU {k:List UInt8}:ph k= []∨k < ph k:=by
  unfold ph
  split
  · right; rw [M.lt_snoc0]; exact List.le_refl _
  · exact M.nx_gt _
theorem H7 {k:List UInt8} (hk:rV k):M.R k (ph k):=by
  refine⟨.inr hk, ?_⟩
  rcases GU (k:=k) with h | h
  · exact .inl h
  · right
    have hne:ph k≠ []:=fun e=>M.not_lt_nil _ (e ▸ h)
    refine⟨⟨tV.1 hne, ?_⟩,h⟩
    unfold ph
    have:=hk.2
    split
    · simp; omega
    · exact Nat.le_trans (M.nx_len k) this
theorem EX (o:aN):mD o=iB (aL.mk o.aJ o.aR):=rfl
theorem CK (o:aN):nR o=if iB (aL.mk o.aJ o.aR)=0 then(if o.aV < 1 then 1 else if o.aV > 4 then 1 else 0) else iB (aL.mk o.aJ o.aR):=rfl
theorem EY (o:aN):pE o=if dR o.aZ=0 then(if((s0 o.aG:Nat):Int) > 16 then 2 else 0) else dR o.aZ:=rfl
theorem Gs {o:aN} (h:o.av=1∨o.av=3):eu o=if o.aG= []∧o.aJ= []∧o.aR= []∧o.aV=0 then dR o.aZ else 40:=by
  unfold eu
  rcases h with h | h
  · rw [if_pos h]
    show (if _ then _ else _)=_
    simp only [pz,nG,bnd]
    congr 1
    simp [eq_comm]
  · rw [if_neg e6,if_neg e6,if_pos h]
    show (if _ then _ else _)=_
    simp only [pz,nG,bnd]
    congr 1
    simp [eq_comm]
theorem Hm {o:aN} (h:o.av=2):eu o=if o.aJ= []∧o.aR= []∧o.aV=0 then pE o else 40:=by
  unfold eu
  rw [if_neg e6,if_pos h]
  show (if _ then _ else _)=_
  simp only [sI,bnd]
  congr 1
  simp [eq_comm]
theorem EZ {o:aN} (h:o.av=4):eu o=if o.aZ= []∧o.aG= [] then nR o else 40:=by
  unfold eu
  rw [if_neg e6,if_neg e6,if_neg e6,if_pos h]
  show (if _ then _ else _)=_
  simp only [sJ,bnd]
  congr 1
  simp [eq_comm]
theorem E5 {o:aN} (h:o.av=5):eu o=if o.aZ= []∧o.aG= []∧o.aV=0 then mD o else 40:=by
  unfold eu
  rw [if_neg e6,if_neg e6,if_neg e6,if_neg e6,if_pos h]
  show (if _ then _ else _)=_
  simp only [rD,bnd]
  congr 1
  simp [eq_comm]
theorem Gt {o:aN} (h: ¬ (1≤o.av∧o.av≤5)):eu o=40:=by
  unfold eu
  rw [if_neg e6,if_neg e6,if_neg e6,if_neg e6,if_neg e6]
theorem CL (o:aN):eu o=kQ o:=by
  by_cases f:o.av=1∨o.av=3
  · rw [Gs f]
    unfold kQ
    simp only [dw]
    by_cases a:o.aJ= [] <;> by_cases b:o.aR= [] <;> by_cases c:o.aG= [] <;> by_cases d:o.aV=0 <;>
      rcases f with f | f <;> rcases CG (k:=o.aZ) with e | e <;> simp [a,b,c,d,f,e, ← zH]
  by_cases g:o.av=2
  · rw [Hm g,EY]
    unfold kQ
    simp only [dw]
    by_cases a:o.aJ= [] <;> by_cases b:o.aR= [] <;> by_cases d:o.aV=0 <;>
      rcases CG (k:=o.aZ) with e | e <;> simp [a,b,d,g,e, ← zH]
  by_cases h:o.av=4
  · rw [EZ h,CK]
    unfold kQ
    simp only [dw]
    by_cases a:o.aZ= [] <;> by_cases b:o.aG= [] <;>
      rcases CJ (r:=aL.mk o.aJ o.aR) with e | e <;> simp [a,b,h,e, ← ES]
  by_cases i:o.av=5
  · rw [E5 i,EX]
    unfold kQ
    simp only [dw]
    by_cases a:o.aZ= [] <;> by_cases b:o.aG= [] <;> by_cases d:o.aV=0 <;>
      rcases CJ (r:=aL.mk o.aJ o.aR) with e | e <;> simp [a,b,d,i,e, ← ES]
  · rw [Gt e6]
    unfold kQ
    rw [if_neg e6,if_neg e6,if_neg e6,if_neg e6,if_neg e6]
theorem GV (l:List aN):mU l=uM l:=by
  unfold mU uM
  congr 1
  induction l with
  | nil=>rfl
  | cons x q ih=>simp only [iH,mJ,CL,ih]
theorem Bb {o:aN} (h:eu o=0) (hk:o.av=4∨o.av=5):o.aZ= []:=by
  rcases hk with hk | hk
  · rw [EZ hk] at h
    split at h
    · next e=>exact e.1
    · cases h
  · rw [E5 hk] at h
    split at h
    · next e=>exact e.1
    · cases h
theorem DL {o:aN} (h:eu o=0) (hk:o.av=1∨o.av=2∨o.av=3):rV o.aZ:=by
  rcases hk with hk | hk | hk
  · rw [Gs (.inl hk)] at h
    split at h
    · exact sO.1 h
    · cases h
  · rw [Hm hk] at h
    split at h
    · rw [EY] at h
      by_cases a:dR o.aZ=0
      · exact sO.1 a
      · rw [if_neg a] at h; exact absurd h a
    · cases h
  · rw [Gs (.inr hk)] at h
    split at h
    · exact sO.1 h
    · cases h
theorem Ev (l:List aN):kC l=rU l:=by
  unfold kC rU; rw [GV]
end Go.Proofs.YtbkagebjhbphaaaGreat
