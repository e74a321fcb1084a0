/-
  Results dealt out to operations: what is owned of them, what they weigh, what a check of the parts tells. Conditions: none beyond each law's own.
-/
import Derived.Test.YtbkagebjhbphaaaGreatGb
namespace Go.Proofs.YtbkagebjhbphaaaGreat
open List renaming flatMap→q6,getD→C2,getD_eq_getElem?_getD→J7,getElem?_cons_succ→q5,getElem?_cons_zero→m6,getElem?_eq_getElem→s5,length→s2,take→r5
open Ll renaming mk→E4
open Nat renaming le_trans→J6,zero_add→o4
set_option linter.unusedVariables false
set_option linter.unusedSimpArgs false
def Row40H.own (x:bM):List HP:= [row x.A x.ls.length x.c (q6 af.cells x.ls) 149 3]
def yf (w:World) (D:Nat→Prop) (ds:List bM):Prop:=∀ q ∈ ds, ∀ x ∈ q.ls,Ro w D (fun w'=>bD w' 2 x.au.A (s2 x.au.ls) (q6 aJ.cells x.au.ls))∧(s2 x.au.ls≤x.au.c∧s2 x.au.ls≤9223372036854775807)
theorem tC {w:World} {D:Nat→Prop} (n:Nat):yf w D (List.replicate n (Sv.mk none 0 []:bM)):=fun q hq x hx=>by
  rw [(List.mem_replicate.1 hq).2] at hx; cases hx
theorem zl {w:World} {D:Nat→Prop} {ds:List bM} {i:Nat} {q:bM} (h:yf w D ds) (hq:ds[i]? =some q):∀ x ∈ q.ls,Ro w D (fun w'=>bD w' 2 x.au.A (s2 x.au.ls) (q6 aJ.cells x.au.ls))∧(s2 x.au.ls≤x.au.c∧s2 x.au.ls≤9223372036854775807):=h q (List.mem_of_getElem? hq)
theorem Da {w:World} {D:Nat→Prop} {ds:List bM} {i:Nat} {y:bM} (h:yf w D ds) (hy:∀ x ∈ y.ls,Ro w D (fun w'=>bD w' 2 x.au.A (s2 x.au.ls) (q6 aJ.cells x.au.ls))∧(s2 x.au.ls≤x.au.c∧s2 x.au.ls≤9223372036854775807)):yf w D (List.set ds i y):=fun q hq x hx=>by
  rcases List.mem_or_eq_of_mem_set hq with e | e
  · exact h q e x hx
  · rw [e] at hx; exact hy x hx
def tt:List (Ll aX)→Nat
  | []=>0
  | x::l=>tot x.ls+tt l
theorem zm:∀ n:Nat,tt (List.replicate n (E4 []:Ll aX))=0
  | 0=>rfl
  | n+1=>by rw [List.replicate_succ,tt,zm n]; rfl
theorem zn:∀ a c:List (Ll aX),tt (a++c)=tt a+tt c
  | [],c=>(o4 _).symm
  | x::a,c=>by rw [List.cons_append,tt,tt,zn a c,Nat.add_assoc]
theorem xH {l:List (Ll aX)} {k:Nat} {x:Ll aX} (hx:l[k]? =some x):tt (r5 (k+1) l)=tt (r5 k l)+tot x.ls:=by
  obtain⟨h,rfl⟩:=List.getElem?_eq_some_iff.1 hx
  rw [List.take_succ_eq_append_getElem h,zn]; rfl
theorem vR (l:List (Ll aX)) (k:Nat):tt (r5 k l)≤tt l:=by
  have:=zn (r5 k l) (List.drop k l)
  rw [List.take_append_drop] at this
  omega
theorem BF:∀ {l:List (Ll aX)} {i:Nat} {x y:Ll aX},l[i]? =some x→tt (List.set l i y)+tot x.ls=tt l+tot y.ls
  | [],_,_,_,h=>by simp at h
  | z::l,0,x,y,h=>by
    simp only [m6,Option.some.injEq] at h
    subst h
    rw [List.set_cons_zero,tt,tt]; omega
  | z::l,i+1,x,y,h=>by
    simp only [q5] at h
    have:=BF (y:=y) h
    rw [List.set_cons_succ,tt,tt]; omega
theorem CP {l:List (Ll aX)} {i N:Nat} {x:Ll aX} (h:tt l≤N) (hx:l[i]? =some x):tot x.ls≤N:=by
  have:=vR l (i+1)
  rw [xH hx] at this
  omega
theorem yD {l:List (Ll aX)} {k:Nat} {x:Ll aX} (h:l[k]? =some x):C2 l k default=x:=by
  rw [J7,h]; rfl
def seen (a:List (Ll aX)) (k j:Nat):Nat:=tt (r5 k a)+tot (r5 j (C2 a k default).ls)
theorem BG (a:List (Ll aX)) (k:Nat):seen a k 0=tt (r5 k a):=rfl
theorem yg {l a:List (Ll aX)} {k j i:Nat} {y:Ll aX} {qs:List aX} {r:aX} (h:tt l≤seen a k j) (hy:a[k]? =some y) (hr:y.ls[j]? =some r) (hq:l[i]? =some (E4 qs)):tt (List.set l i (E4 (qs++ [r])))≤seen a k (j+1):=by
  have b:=BF (y:=E4 (qs++ [r])) hq
  have c:tot (E4 (qs++ [r])).ls=tot qs+tot [r]:=vQ qs [r]
  have d:tot [r]=s2 r.au.ls+1:=rfl
  unfold seen at h ⊢
  rw [yD hy] at h ⊢
  rw [wG hr]
  have e:tot (E4 qs:Ll aX).ls=tot qs:=rfl
  omega
theorem zo {l a:List (Ll aX)} {k j:Nat} (h:tt l≤seen a k j) (hk:k < s2 a):tt l≤tt (r5 (k+1) a):=by
  unfold seen at h
  have hy:a[k]? =some a[k]:=s5 hk
  rw [yD hy] at h
  rw [xH hy]
  have:=uV a[k].ls j
  omega
theorem Ej {l a:List (Ll aX)} {k i N:Nat} {qs:List aX} (h:tt l≤tt (r5 k a)) (b:tt a≤N) (hq:l[i]? =some (E4 qs)):tot qs≤N:=CP (x:=E4 qs) (J6 h (J6 (vR _ _) b)) hq
theorem Aj (a:List (Ll aX)) (k j:Nat):seen a k j≤tt a:=by
  unfold seen
  by_cases hk:k < s2 a
  · have hy:a[k]? =some a[k]:=s5 hk
    rw [yD hy]
    have d:=xH hy
    have b:=vR a (k+1)
    have c:=uV a[k].ls j
    omega
  · have e:C2 a k default=default:=by rw [J7,List.getElem?_eq_none e6]; rfl
    rw [e]
    have b:=vR a k
    have c:tot (r5 j (default:Ll aX).ls)=0:=by
      have:(default:Ll aX).ls= []:=rfl
      rw [this,List.take_nil]; rfl
    omega
theorem wX {l b:List (Ll aX)} {i N m:Nat} {q:bM} (h:tt l≤m) (hm:m≤tt b) (c:tt b≤N) (hq:l[i]? =some (bM.abs q)):s2 q.ls≤N∧s2 (List.map af.abs q.ls)≤N:=by
  have d:=CP (J6 h (J6 hm c)) hq
  have a:s2 (List.map af.abs q.ls)≤N:=J6 (Ai _) d
  exact⟨by rw [List.length_map] at a; exact a,a⟩
theorem Ck {α σ ρ:Type} (a:α) (f:α→σ ⊕ ρ):qQ (Sum.inl a) f=f a:=rfl
theorem Cm {α σ ρ:Type} (a:ρ) (f:α→σ ⊕ ρ):qQ (Sum.inr a) f=Sum.inr a:=rfl
theorem DL (l0:List bC) (k:Nat):∀ q:List Int,(gD l0 k q= .inl ()∧∀ f ∈ q,0≤f∧f < ((s2 l0:Nat):Int))∨(gD l0 k q= .inr 1∧∃ f ∈ q,f < 0∨f ≥ ((s2 l0:Nat):Int))
  | []=> .inl ⟨by rw [gD],fun f hf=>(by cases hf)⟩
  | x::q=>by
    rw [gD]
    by_cases a:x < 0
    · exact .inr ⟨by rw [if_pos a],x, .head _, .inl a⟩
    · by_cases b:x ≥ ((s2 l0:Nat):Int)
      · exact .inr ⟨by rw [if_neg a,if_pos b],x, .head _, .inr b⟩
      · rw [if_neg a,if_neg b]
        rcases DL l0 k q with ⟨c,d⟩ | ⟨c,f,d,g⟩
        · refine .inl ⟨c,fun f hf=> ?_⟩
          rcases List.mem_cons.1 hf with e | e
          · rw [e]; omega
          · exact d f e
        · exact .inr ⟨c,f, .tail _ d,g⟩
def uW (l0:List bC) (x:fV) (y:Ll aX):Prop:=s2 x.aD.ls=s2 x.aP.ls∧s2 x.aD.ls=s2 y.ls∧∀ f ∈ x.aP.ls,0≤f∧f < ((s2 l0:Nat):Int)
theorem DN (l0:List bC) (a:List (Ll aX)):∀ (q:List fV) (k:Nat),(fM l0 a q k= .inl ()∧∀ (i:Nat) (x:fV),q[i]? =some x→uW l0 x (C2 a (k+i) default))∨(fM l0 a q k= .inr 1∧∃ (i:Nat) (x:fV),q[i]? =some x∧¬ uW l0 x (C2 a (k+i) default))
  | [],k=> .inl ⟨by rw [fM],fun i x h=>by simp at h⟩
  | x::q,k=>by
    rw [fM]
    by_cases b:((x.aD.ls.length:Nat):Int)=((x.aP.ls.length:Nat):Int)
    · rw [if_pos b]
      simp only [bnd]
      by_cases c:((x.aD.ls.length:Nat):Int)=(((C2 a k default).ls.length:Nat):Int)
      · rw [if_pos c]
        rcases DL l0 k x.aP.ls with ⟨d,e⟩ | ⟨d,f,e,m⟩
        · rw [d,Ck]
          rcases DN l0 a q (k+1) with ⟨g,j⟩ | ⟨g,i,y,j,l⟩
          · refine .inl ⟨g,fun i y hy=> ?_⟩
            cases i with
            | zero=>
              simp only [m6,Option.some.injEq] at hy
              subst hy
              exact⟨e6,by rw [Nat.add_zero]; omega,e⟩
            | succ i=>
              simp only [q5] at hy
              have:=j i y hy
              rw [show k+1+i=k+(i+1) by omega] at this
              exact this
          · exact .inr ⟨g,i+1,y,by simpa using j,by rw [show k+(i+1)=k+1+i by omega]; exact l⟩
        · rw [d,Cm]
          exact .inr ⟨rfl,0,x,rfl,fun w=>by have:=w.2.2 f e; omega⟩
      · rw [if_neg c]
        exact .inr ⟨rfl,0,x,rfl,fun w=>c (by have:=w.2.1; rw [Nat.add_zero] at this; omega)⟩
    · rw [if_neg b]
      exact .inr ⟨rfl,0,x,rfl,fun w=>b (by have:=w.1; omega)⟩
theorem Es (l0:List bC) (l1:List fV) (a:List (Ll aX)):(j4 l0 l1 a=0∧s2 a=s2 l1∧∀ (i:Nat) (x:fV),l1[i]? =some x→uW l0 x (C2 a i default))∨(j4 l0 l1 a=1∧¬ (s2 a=s2 l1∧∀ (i:Nat) (x:fV),l1[i]? =some x→uW l0 x (C2 a i default))):=by
  unfold j4
  by_cases c:((a.length:Nat):Int)=((l1.length:Nat):Int)
  · rw [if_pos c]
    rcases DN l0 a l1 0 with ⟨b,d⟩ | ⟨b,i,x,d,e⟩
    · exact .inl ⟨by rw [b]; rfl,e6,fun i x hx=>by have:=d i x hx; rw [o4] at this; exact this⟩
    · exact .inr ⟨by rw [b]; rfl,fun w=>e (by rw [o4]; exact w.2 i x d)⟩
  · rw [if_neg c]
    exact .inr ⟨rfl,fun w=>c e6⟩
theorem Db {l0:List bC} {l1:List fV} {a:List (Ll aX)} {r:Int} (h:j4 l0 l1 a=r):s2 a=s2 l1∨¬ r=0:=by
  rcases Es l0 l1 a with ⟨_,b,_⟩ | ⟨c,_⟩
  · exact .inl b
  · exact .inr (by rw [← h,c]; decide)
theorem zq {l0:List bC} {l1:List fV} {a:List (Ll aX)} {r:Int} (h:j4 l0 l1 a=r) (c:r=0) {i:Nat} {x:fV} (hx:l1[i]? =some x):uW l0 x (C2 a i default):=by
  rcases Es l0 l1 a with ⟨_,_,d⟩ | ⟨b,_⟩
  · exact d i x hx
  · rw [h,c] at b; cases b
end Go.Proofs.YtbkagebjhbphaaaGreat
