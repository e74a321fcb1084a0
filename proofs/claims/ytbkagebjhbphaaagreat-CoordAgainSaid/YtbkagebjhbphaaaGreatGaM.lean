/-
  Results dealt out to operations: what is owned of them, what they weigh, what a check of the parts tells. Conditions: none beyond each law's own.
-/
import Derived.Test.YtbkagebjhbphaaaGreatGb
namespace Go.Proofs.YtbkagebjhbphaaaGreat
open List renaming flatMap→q6,getD→C2,getD_eq_getElem?_getD→K3,getElem?_cons_succ→q5,getElem?_cons_zero→m6,getElem?_eq_getElem→s5,length→s2,take→r5
open Ll renaming mk→E4
open Nat renaming le_trans→K2,zero_add→o4
set_option linter.unusedVariables false
set_option linter.unusedSimpArgs false
def Row40H.own (x:bO):List HP:= [row x.A x.ls.length x.c (q6 af.cells x.ls) 149 3]
def yN (w:World) (D:Nat→Prop) (ds:List bO):Prop:=∀ q ∈ ds, ∀ x ∈ q.ls,Ro w D (fun w'=>bD w' 2 x.au.A (s2 x.au.ls) (q6 aL.cells x.au.ls))∧(s2 x.au.ls≤x.au.c∧s2 x.au.ls≤9223372036854775807)
theorem tZ {w:World} {D:Nat→Prop} (n:Nat):yN w D (List.replicate n (Sv.mk none 0 []:bO)):=fun q hq x hx=>by
  rw [(List.mem_replicate.1 hq).2] at hx; cases hx
theorem zR {w:World} {D:Nat→Prop} {ds:List bO} {i:Nat} {q:bO} (h:yN w D ds) (hq:ds[i]? =some q):∀ x ∈ q.ls,Ro w D (fun w'=>bD w' 2 x.au.A (s2 x.au.ls) (q6 aL.cells x.au.ls))∧(s2 x.au.ls≤x.au.c∧s2 x.au.ls≤9223372036854775807):=h q (List.mem_of_getElem? hq)
theorem DW {w:World} {D:Nat→Prop} {ds:List bO} {i:Nat} {y:bO} (h:yN w D ds) (hy:∀ x ∈ y.ls,Ro w D (fun w'=>bD w' 2 x.au.A (s2 x.au.ls) (q6 aL.cells x.au.ls))∧(s2 x.au.ls≤x.au.c∧s2 x.au.ls≤9223372036854775807)):yN w D (List.set ds i y):=fun q hq x hx=>by
  rcases List.mem_or_eq_of_mem_set hq with e | e
  · exact h q e x hx
  · rw [e] at hx; exact hy x hx
def tt:List (Ll aY)→Nat
  | []=>0
  | x::l=>tot x.ls+tt l
theorem zS:∀ n:Nat,tt (List.replicate n (E4 []:Ll aY))=0
  | 0=>rfl
  | n+1=>by rw [List.replicate_succ,tt,zS n]; rfl
theorem zT:∀ a c:List (Ll aY),tt (a++c)=tt a+tt c
  | [],c=>(o4 _).symm
  | x::a,c=>by rw [List.cons_append,tt,tt,zT a c,Nat.add_assoc]
theorem yl {l:List (Ll aY)} {k:Nat} {x:Ll aY} (hx:l[k]? =some x):tt (r5 (k+1) l)=tt (r5 k l)+tot x.ls:=by
  obtain⟨h,rfl⟩:=List.getElem?_eq_some_iff.1 hx
  rw [List.take_succ_eq_append_getElem h,zT]; rfl
theorem wy (l:List (Ll aY)) (k:Nat):tt (r5 k l)≤tt l:=by
  have:=zT (r5 k l) (List.drop k l)
  rw [List.take_append_drop] at this
  omega
theorem Co:∀ {l:List (Ll aY)} {i:Nat} {x y:Ll aY},l[i]? =some x→tt (List.set l i y)+tot x.ls=tt l+tot y.ls
  | [],_,_,_,h=>by simp at h
  | z::l,0,x,y,h=>by
    simp only [m6,Option.some.injEq] at h
    subst h
    rw [List.set_cons_zero,tt,tt]; omega
  | z::l,i+1,x,y,h=>by
    simp only [q5] at h
    have:=Co (y:=y) h
    rw [List.set_cons_succ,tt,tt]; omega
theorem Dz {l:List (Ll aY)} {i N:Nat} {x:Ll aY} (h:tt l≤N) (hx:l[i]? =some x):tot x.ls≤N:=by
  have:=wy l (i+1)
  rw [yl hx] at this
  omega
theorem zf {l:List (Ll aY)} {k:Nat} {x:Ll aY} (h:l[k]? =some x):C2 l k default=x:=by
  rw [K3,h]; rfl
def seen (a:List (Ll aY)) (k j:Nat):Nat:=tt (r5 k a)+tot (r5 j (C2 a k default).ls)
theorem Cq (a:List (Ll aY)) (k:Nat):seen a k 0=tt (r5 k a):=rfl
theorem yO {l a:List (Ll aY)} {k j i:Nat} {y:Ll aY} {qs:List aY} {r:aY} (h:tt l≤seen a k j) (hy:a[k]? =some y) (hr:y.ls[j]? =some r) (hq:l[i]? =some (E4 qs)):tt (List.set l i (E4 (qs++ [r])))≤seen a k (j+1):=by
  have b:=Co (y:=E4 (qs++ [r])) hq
  have c:tot (E4 (qs++ [r])).ls=tot qs+tot [r]:=ww qs [r]
  have d:tot [r]=s2 r.au.ls+1:=rfl
  unfold seen at h ⊢
  rw [zf hy] at h ⊢
  rw [wX hr]
  have e:tot (E4 qs:Ll aY).ls=tot qs:=rfl
  omega
theorem zU {l a:List (Ll aY)} {k j:Nat} (h:tt l≤seen a k j) (hk:k < s2 a):tt l≤tt (r5 (k+1) a):=by
  unfold seen at h
  have hy:a[k]? =some a[k]:=s5 hk
  rw [zf hy] at h
  rw [yl hy]
  have:=vE a[k].ls j
  omega
theorem Fb {l a:List (Ll aY)} {k i N:Nat} {qs:List aY} (h:tt l≤tt (r5 k a)) (b:tt a≤N) (hq:l[i]? =some (E4 qs)):tot qs≤N:=Dz (x:=E4 qs) (K2 h (K2 (wy _ _) b)) hq
theorem Bb (a:List (Ll aY)) (k j:Nat):seen a k j≤tt a:=by
  unfold seen
  by_cases hk:k < s2 a
  · have hy:a[k]? =some a[k]:=s5 hk
    rw [zf hy]
    have d:=yl hy
    have b:=wy a (k+1)
    have c:=vE a[k].ls j
    omega
  · have e:C2 a k default=default:=by rw [K3,List.getElem?_eq_none e6]; rfl
    rw [e]
    have b:=wy a k
    have c:tot (r5 j (default:Ll aY).ls)=0:=by
      have:(default:Ll aY).ls= []:=rfl
      rw [this,List.take_nil]; rfl
    omega
theorem xD {l b:List (Ll aY)} {i N m:Nat} {q:bO} (h:tt l≤m) (hm:m≤tt b) (c:tt b≤N) (hq:l[i]? =some (bO.abs q)):s2 q.ls≤N∧s2 (List.map af.abs q.ls)≤N:=by
  have d:=Dz (K2 h (K2 hm c)) hq
  have a:s2 (List.map af.abs q.ls)≤N:=K2 (Ba _) d
  exact⟨by rw [List.length_map] at a; exact a,a⟩
theorem Db {α σ ρ:Type} (a:α) (f:α→σ ⊕ ρ):sI (Sum.inl a) f=f a:=rfl
theorem Dc {α σ ρ:Type} (a:ρ) (f:α→σ ⊕ ρ):sI (Sum.inr a) f=Sum.inr a:=rfl
theorem Ex (l0:List bC) (k:Nat):∀ q:List Int,(gL l0 k q= .inl ()∧∀ f ∈ q,0≤f∧f < ((s2 l0:Nat):Int))∨(gL l0 k q= .inr 1∧∃ f ∈ q,f < 0∨f ≥ ((s2 l0:Nat):Int))
  | []=> .inl ⟨by rw [gL],fun f hf=>(by cases hf)⟩
  | x::q=>by
    rw [gL]
    by_cases a:x < 0
    · exact .inr ⟨by rw [if_pos a],x, .head _, .inl a⟩
    · by_cases b:x ≥ ((s2 l0:Nat):Int)
      · exact .inr ⟨by rw [if_neg a,if_pos b],x, .head _, .inr b⟩
      · rw [if_neg a,if_neg b]
        rcases Ex l0 k q with ⟨c,d⟩ | ⟨c,f,d,g⟩
        · refine .inl ⟨c,fun f hf=> ?_⟩
          rcases List.mem_cons.1 hf with e | e
          · rw [e]; omega
          · exact d f e
        · exact .inr ⟨c,f, .tail _ d,g⟩
def vF (l0:List bC) (x:gq) (y:Ll aY):Prop:=s2 x.aG.ls=s2 x.aJ.ls∧s2 x.aG.ls=s2 y.ls∧∀ f ∈ x.aJ.ls,0≤f∧f < ((s2 l0:Nat):Int)
theorem Ey (l0:List bC) (a:List (Ll aY)):∀ (q:List gq) (k:Nat),(fT l0 a q k= .inl ()∧∀ (i:Nat) (x:gq),q[i]? =some x→vF l0 x (C2 a (k+i) default))∨(fT l0 a q k= .inr 1∧∃ (i:Nat) (x:gq),q[i]? =some x∧¬ vF l0 x (C2 a (k+i) default))
  | [],k=> .inl ⟨by rw [fT],fun i x h=>by simp at h⟩
  | x::q,k=>by
    rw [fT]
    by_cases b:((x.aG.ls.length:Nat):Int)=((x.aJ.ls.length:Nat):Int)
    · rw [if_pos b]
      simp only [bnd]
      by_cases c:((x.aG.ls.length:Nat):Int)=(((C2 a k default).ls.length:Nat):Int)
      · rw [if_pos c]
        rcases Ex l0 k x.aJ.ls with ⟨d,e⟩ | ⟨d,f,e,m⟩
        · rw [d,Db]
          rcases Ey l0 a q (k+1) with ⟨g,j⟩ | ⟨g,i,y,j,l⟩
          · refine .inl ⟨g,fun i y hy=> ?_⟩
            cases i with
            | zero=>
              simp only [m6,Option.some.injEq] at hy
              subst hy
              exact⟨e6,by rw [Nat.add_zero]; omega,e⟩
            | succ i=>
              simp only [q5] at hy
              have:=j i y hy
              rw [show k+1+i=k+(i+1) by omega] at this
              exact this
          · exact .inr ⟨g,i+1,y,by simpa using j,by rw [show k+(i+1)=k+1+i by omega]; exact l⟩
        · rw [d,Dc]
          exact .inr ⟨rfl,0,x,rfl,fun w=>by have:=w.2.2 f e; omega⟩
      · rw [if_neg c]
        exact .inr ⟨rfl,0,x,rfl,fun w=>c (by have:=w.2.1; rw [Nat.add_zero] at this; omega)⟩
    · rw [if_neg b]
      exact .inr ⟨rfl,0,x,rfl,fun w=>b (by have:=w.1; omega)⟩
theorem Fu (l0:List bC) (l1:List gq) (a:List (Ll aY)):(kw l0 l1 a=0∧s2 a=s2 l1∧∀ (i:Nat) (x:gq),l1[i]? =some x→vF l0 x (C2 a i default))∨(kw l0 l1 a=1∧¬ (s2 a=s2 l1∧∀ (i:Nat) (x:gq),l1[i]? =some x→vF l0 x (C2 a i default))):=by
  unfold kw
  by_cases c:((a.length:Nat):Int)=((l1.length:Nat):Int)
  · rw [if_pos c]
    rcases Ey l0 a l1 0 with ⟨b,d⟩ | ⟨b,i,x,d,e⟩
    · exact .inl ⟨by rw [b]; rfl,e6,fun i x hx=>by have:=d i x hx; rw [o4] at this; exact this⟩
    · exact .inr ⟨by rw [b]; rfl,fun w=>e (by rw [o4]; exact w.2 i x d)⟩
  · rw [if_neg c]
    exact .inr ⟨rfl,fun w=>c e6⟩
theorem DX {l0:List bC} {l1:List gq} {a:List (Ll aY)} {r:Int} (h:kw l0 l1 a=r):s2 a=s2 l1∨¬ r=0:=by
  rcases Fu l0 l1 a with ⟨_,b,_⟩ | ⟨c,_⟩
  · exact .inl b
  · exact .inr (by rw [← h,c]; decide)
theorem zV {l0:List bC} {l1:List gq} {a:List (Ll aY)} {r:Int} (h:kw l0 l1 a=r) (c:r=0) {i:Nat} {x:gq} (hx:l1[i]? =some x):vF l0 x (C2 a i default):=by
  rcases Fu l0 l1 a with ⟨_,_,d⟩ | ⟨b,_⟩
  · exact d i x hx
  · rw [h,c] at b; cases b
end Go.Proofs.YtbkagebjhbphaaaGreat
