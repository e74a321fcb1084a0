/-
 coord: the law CoordOnce, of its arguments' values.
-/
import Derived.Test.YtbkagebjhbphaaaGreatCoQ
import Derived.Test.YtbkagebjhbphaaaGreatCoV
import Derived.Test.YtbkagebjhbphaaaGreatLOnce
namespace Go.Proofs.YtbkagebjhbphaaaGreat
set_option maxRecDepth 100000
set_option linter.unusedVariables false
set_option linter.unusedSimpArgs false
def bg (B:List (Nat × Bool)) (n:Nat):Bool:=Option.getD (nU B n) false
def sd (S:List (Nat × eX)) (n:Nat):eX:=Option.getD (nU S n) eX.zero
structure Vo (B:List (Nat × Bool)) (S:List (Nat × eX)) (m:aA):Prop where
  c1:∀ n,bg B n=true→n≤lS m
  c2:∀ n,(sd S n).bD=true→n ∈ nD m
  c3:∀ n,(sd S n).oN=true→n ∉ nA m∧n ∉ nD m
  c4:∀ n,(sd S n).oN=true→bg B n=true
theorem Vo.step {B:List (Nat × Bool)} {S:List (Nat × eX)} {m m':aA} (h:Vo B S m) (r:Rl m m'):Vo B S m':=
  ⟨fun n e=>Nat.le_trans (h.c1 n e) r.bn,fun n e=>r.dd n (h.c2 n e),fun n e=>by
    have f:=h.c1 n (h.c4 n e)
    obtain⟨c,d⟩:=h.c3 n e
    refine⟨fun b=> ?_,fun b=> ?_⟩
    · rcases r.an n b with a | a
      · exact c a
      · omega
    · rcases r.dn n b with a | a | a
      · exact d a
      · exact c a
      · omega,h.c4⟩
theorem Vo.ug {B:List (Nat × Bool)} {S:List (Nat × eX)} {m:aA} (h:Vo B S m) {n:Nat} (hn:n≤lS m):Vo (kL B n true) S m:=by
  have hb:∀ q,bg (kL B n true) q=if n=q then true else bg B q:=fun q=>by unfold bg; rw [xz]; split <;> rfl
  refine⟨fun q e=> ?_,h.c2,h.c3,fun q e=> ?_⟩
  · rw [hb] at e
    by_cases c:n=q
    · rw [← c]; exact hn
    · rw [if_neg c] at e; exact h.c1 q e
  · rw [hb]; split
    · rfl
    · exact h.c4 q e
theorem Vo.put {B:List (Nat × Bool)} {S:List (Nat × eX)} {m:aA} (h:Vo B S m) {n:Nat} (hb:bg B n=true) (v:eX) (hy:v.bD=true→n ∈ nD m) (hn:v.oN=true→n ∉ nA m∧n ∉ nD m):Vo B (kL S n v) m:=by
  have hs:∀ q,sd (kL S n v) q=if n=q then v else sd S q:=fun q=>by unfold sd; rw [xz]; split <;> rfl
  refine⟨h.c1,fun q e=> ?_,fun q e=> ?_,fun q e=> ?_⟩
  · rw [hs] at e
    by_cases c:n=q
    · subst c; rw [if_pos rfl] at e; exact hy e
    · rw [if_neg c] at e; exact h.c2 q e
  · rw [hs] at e
    by_cases c:n=q
    · subst c; rw [if_pos rfl] at e; exact hn e
    · rw [if_neg c] at e; exact h.c3 q e
  · rw [hs] at e
    by_cases c:n=q
    · subst c; exact hb
    · rw [if_neg c] at e; exact h.c4 q e
theorem Cq {M m:aA} {l0:List bL}:∀ {o:List bL} {B:List (Nat × Bool)} {S:List (Nat × eX)},(∀ x ∈ o,Mo m x)→Vo B S m→∃ B' S',Vo B' S' m∧eY M l0 o B S= .inl (B',S')
  | [],B,S,_,v=>⟨B,S,v,rfl⟩
  | x::o,B,S,ho,v=>by
    have hx:=ho x b1
    obtain⟨b,d,a⟩:∃ b,(if x.aD=3 then kL B x.aN true else B)=b∧Vo b S m:=by
      by_cases e:x.aD=3
      · exact⟨_,if_pos e,v.ug (hx.work e)⟩
      · exact⟨_,if_neg e,v⟩
    have ih:∀ {S:List (Nat × eX)},Vo b S m→∃ B' S',Vo B' S' m∧eY M l0 o b S= .inl (B',S'):=fun v=>Cq (fun y hy=>ho y (.tail _ hy)) v
    unfold eY
    simp only [ig]
    rw [d]
    by_cases c:x.aD=5
    · rw [if_pos c]
      by_cases hb:Option.getD (nU b x.aN) false=true
      · rw [if_pos hb]
        by_cases hy:(Option.getD (nU S x.aN) eX.zero).bD=true
        · rw [if_pos hy]
          have hD:=a.c2 _ hy
          rw [if_neg (fun hn:(Option.getD (nU S x.aN) eX.zero).oN=true=>(a.c3 _ hn).2 hD)]
          by_cases hf:x.cz=true
          · rw [if_pos hf]
            exact ih (a.put hb _ (fun _=>hD) fun e=>by simp [hf] at e)
          · exact absurd hD (hx.no c (Bool.eq_false_iff.2 hf)).2
        · rw [if_neg hy]
          by_cases hn:(Option.getD (nU S x.aN) eX.zero).oN=true
          · rw [if_pos hn]
            have hN:=a.c3 _ hn
            by_cases hf:x.cz=true
            · exact absurd (hx.yes c hf) hN.2
            · rw [if_neg hf]
              exact ih (a.put hb _ (fun e=>absurd e hf) fun _=>hN)
          · rw [if_neg hn]
            have hp:Vo b (kL S x.aN (eX.mk x.cz (!x.cz))) m:=a.put hb _ (fun e=>hx.yes c e) fun e=>hx.no c (by simpa using e)
            split
            · exact ih hp
            · exact ih hp
      · rw [if_neg hb]; exact ih a
    · rw [if_neg c]; exact ih a
theorem uU {x:bL}:∀ {l:List eD} {b:Bool},(b=true∨∃ y ∈ l,y.aK=IntKind.i64.wrap (x.fI - 10)∧y.aP=x.aP)→gD x l b=true
  | [],b,h=>h.elim id fun⟨y,hy,_⟩=>by cases hy
  | z::l,b,h=>by
    unfold gD
    by_cases hb:b=true
    · rw [if_pos hb]; exact uU (.inl rfl)
    rw [if_neg hb]
    obtain⟨y,hy,a,c⟩:=h.resolve_left hb
    rcases List.mem_cons.1 hy with rfl | hy
    · rw [if_pos a]; exact uU (.inl (decide_eq_true (by rw [c])))
    · split
      · exact uU (.inr ⟨y,hy,a,c⟩)
      · exact uU (.inr ⟨y,hy,a,c⟩)
theorem Cr {M m:aA} {B:List (Nat × Bool)} {S:List (Nat × eX)} (H:mR m):∀ {o:List bL},(∀ x ∈ o,Mo m x)→iD M B S m.aa o= .inl ()
  | [],_=>rfl
  | x::o,ho=>by
    have ih:=Cr (M:=M) (B:=B) (S:=S) H fun y hy=>ho y (.tail _ hy)
    unfold iD
    simp only [ig]
    by_cases e:x.aD=2
    · rw [if_pos e]
      by_cases c:x.dz=1
      · rw [if_pos c]
        obtain⟨l,hl,a,b⟩:=(ho x b1).ans e c
        have d:=(H.mH l hl).1
        rw [if_pos (uU (.inr ⟨l,hl,by rw [a,Lf _ e6]; omega,b⟩))]
        exact ih
      · rw [if_neg c]; exact ih
    · rw [if_neg e]; exact ih
def Fe (k:Nat) (m:aA) (E:(aA × List bL) ⊕ Bool):Prop:=∃ m' o,E= .inl (m',o)∧Fs k m o m'
theorem Gt {α:Type} {x:α} {k:Nat} {m:aA} {f:α→(aA × List bL) ⊕ Bool} (h:∀ a,Fe k m (f a)):Fe k m (bnd x f):=h x
theorem zW {α:Type} {x y:α} {k:Nat} {m:aA} {f:α→(aA × List bL) ⊕ Bool} (e:x=y) (h:Fe k m (f y)):Fe k m (bnd x f):=e ▸ h
theorem Gu {c:Prop} [Decidable c] {k:Nat} {m:aA} {a b:(aA × List bL) ⊕ Bool} (hc:c) (h:Fe k m a):Fe k m (if c then a else b):=by rw [if_pos hc]; exact h
theorem yM {c:Prop} [Decidable c] {k:Nat} {m:aA} {a b:(aA × List bL) ⊕ Bool} (h:c→Fe k m a) (h': ¬ c→Fe k m b):Fe k m (if c then a else b):=by
  by_cases e:c
  · rw [if_pos e]; exact h e
  · rw [if_neg e]; exact h' e
theorem Fq {k:Nat} {m:aA} {x:bL} (a: ¬ x.aD=6) (H:mR m) (n:Nk k m) (hk:k+1≤1000):Fe k m (bnd (eT m x) fun y=>Sum.inl (y.2.2,y.1.fo.ls)):=⟨_,_,rfl,Gj a H n hk⟩
theorem Fu {k:Nat} {m:aA} (H:mR m) (n:Nk k m) (hk:k+1≤1000):Fe k m (bnd (jk m) fun y=>Sum.inl (y.2,y.1.fo.ls)):=⟨_,_,rfl,Gm H n hk⟩
theorem DN {k:Nat} {m m':aA} {o:List bL} (F:Fs k m o m'):Fe k m (Sum.inl (m',o)):=⟨_,_,rfl,F⟩
theorem Fv {b:Bool} {l:List StepT} {k:Nat} {m:aA} {B:List (Nat × Bool)} {S:List (Nat × eX)} {E:(aA × List bL) ⊕ Bool} (hE:Fe k m E) (v:Vo B S m) (ih:∀ m' B' S',mR m'→Nk (k+1) m'→Vo B' S' m'→fP b l m' B' S'= .inl ()):(qU E fun s=>qU (eY s.1 s.2 s.2 B S) fun q=>bnd (eQ s.1) fun y=>qU (iD s.1 q.1 q.2 y s.2) fun _=>fP b l s.1 q.1 q.2)= .inl ():=by
  obtain⟨m',o,e,F⟩:=hE
  obtain⟨B',S',v',e'⟩:=Cq (M:=m') (l0:=o) F.mo (v.step F.rl)
  refine(nY e).trans ((nY e').trans ?_)
  exact(nY (Cr (M:=m') (B:=B') (S:=S') F.ok F.mo)).trans (ih m' B' S' F.ok F.nk v')
theorem zm (b:Bool):∀ (l:List StepT) (k:Nat) (m:aA) (B:List (Nat × Bool)) (S:List (Nat × eX)),mR m→Nk k m→k+l.length≤1000→Vo B S m→fP b l m B S= .inl ()
  | [],_,_,_,_,_,_,_,_=>rfl
  | x::l,k,m,B,S,H,n,hk,v=>by
    rw [List.length_cons] at hk
    have a:k+1≤1000:=by omega
    unfold fP
    by_cases hc: ¬ (x.iU=0)∨¬ (x.az.aD=6)
    · rw [if_pos hc]
      refine Fv ?_ v fun m' B' S' H' n' v'=>zm b l (k+1) m' B' S' H' n' e6 v'
      refine yM (fun c=>Gt fun _=>Fq (hc.resolve_left fun h=>h c) H n a) fun _=>yM (fun _=>Fu H n a) fun _=>yM (fun _=> ?_) fun _=>DN (Fs.same H n a fun x hx=>by cases hx)
      refine zW (y:=m.aa) rfl (zW (Gs H n) (Gu rfl (yM (fun h=> ?_) fun _=>zW (y:=m.aa) rfl (zW (y:=qo m.aa) rfl (DN (GJ H n a))))))
      have d:=n.bo; have e:=n.lt; omega
    · rw [if_neg hc]
      exact zm b l k m B S H n e6 v
theorem Eo {l0:List StepT}:sP l0=true:=by
  unfold sP
  refine(ah DL).trans ?_
  refine(ah (show gJ (cZ.mk 2 0 0 1 (Ll.mk ([(aY.mk ([]) 1),(aY.mk ([109]) 2)])) (Ll.mk ([])) (Ll.mk ([])))=0 by decide+kernel)).trans ?_
  rw [if_pos rfl]
  refine(ah rfl).trans ?_
  refine(ah rfl).trans ?_
  by_cases h:((l0.length:Nat):Int) > 100
  · rw [if_pos h,if_pos rfl]
  rw [if_neg h]
  have hb:Int.toNat (IntKind.u64.wrap (((0:Nat):Int)+1))=1:=by decide+kernel
  refine nT (zm true l0 0 _ [] [] ⟨⟨rfl,rfl,Lg _,List.Pairwise.nil,List.Pairwise.nil,fun x hx=>absurd hx List.not_mem_nil,fun x hx=>absurd hx List.not_mem_nil,fun x hx=>absurd hx List.not_mem_nil,List.Pairwise.nil,fun x hx=>absurd hx List.not_mem_nil,fun x hx=>absurd hx List.not_mem_nil,fun x hx=>absurd hx List.not_mem_nil⟩,fun c hc h _=> ?_⟩ ⟨f4,Nat.le_of_eq hb,Lg _⟩ e6 ⟨fun n e=>(by cases e),fun n e=>(by cases e),fun n e=>(by cases e),fun n e=>(by cases e)⟩)
  obtain rfl | rfl | rfl | rfl:c=1∨c=2∨c=3∨c=4:=by omega
  · cases h
  · cases h
  · cases h
  · cases h
end Go.Proofs.YtbkagebjhbphaaaGreat
namespace Go.Proofs.YtbkagebjhbphaaaGreat
open List renaming length_map→s3
set_option maxRecDepth 100000
open Go.RowKit
set_option linter.unusedVariables false
set_option linter.unusedSectionVars false
set_option linter.unusedSimpArgs false
theorem BC (w) (f:Sv fM) (a:mI w 25 272 fM.cells (JB w) f):
    Calls Tryz.prog 3 #[.slice f.A f.ls.length f.c] w fun e w'=>e= .returned (.bool true)∧Below w.heap.size w w':=
 (xU w (fun _:Nat=>False) f.A f.ls.length f.c f.ls (List.map fM.abs f.ls) true (Ku w) rfl (bE.ro a.2.2.1 f4) (fun b d=>⟨bE.ro (a.2.2.2 b d).2.2.1.2.2.2.2.2.2.2.2.2.2.2.2.2.2.2.2.2.1.2.2.1 f4,(by have g:=(a.2.2.2 b d).2.2.1.2.2.2.2.2.2.2.2.2.2.2.2.2.2.2.2.2.1.1; have h:=(a.2.2.2 b d).2.2.1.2.2.2.2.2.2.2.2.2.2.2.2.2.2.2.2.2.1.2.1; omega),bE.ro (a.2.2.2 b d).2.2.1.2.2.2.2.2.2.2.2.2.2.2.2.2.2.2.2.2.2.1.2.2.1 f4,(by have g:=(a.2.2.2 b d).2.2.1.2.2.2.2.2.2.2.2.2.2.2.2.2.2.2.2.2.2.1.1; have h:=(a.2.2.2 b d).2.2.1.2.2.2.2.2.2.2.2.2.2.2.2.2.2.2.2.2.2.1.2.1; omega),(fun i j=>⟨bE.ro ((a.2.2.2 b d).2.2.1.2.2.2.2.2.2.2.2.2.2.2.2.2.2.2.2.2.2.1.2.2.2 i j).2.2.2.2.1 f4,(by have g:=((a.2.2.2 b d).2.2.1.2.2.2.2.2.2.2.2.2.2.2.2.2.2.2.2.2.2.1.2.2.2 i j).2.2.1; have h:=((a.2.2.2 b d).2.2.1.2.2.2.2.2.2.2.2.2.2.2.2.2.2.2.2.2.2.1.2.2.2 i j).2.2.2.1; omega)⟩),bE.ro (a.2.2.2 b d).2.2.1.2.2.2.2.2.2.2.2.2.2.2.2.2.2.2.2.2.2.2.2.2.1 f4,(by have g:=(a.2.2.2 b d).2.2.1.2.2.2.2.2.2.2.2.2.2.2.2.2.2.2.2.2.2.2.1; have h:=(a.2.2.2 b d).2.2.1.2.2.2.2.2.2.2.2.2.2.2.2.2.2.2.2.2.2.2.2.1; omega)⟩) (s3 ..).symm (by rw [s3]; have:=a.1; have:=a.2.1; omega) (by rw [s3]; have:=a.1; have:=a.2.1; omega) (E8 a.2.2.2) (Eo)).mono fun e w' ⟨v,he,hv,H⟩=>⟨by rw [he,hv],H.below⟩
end Go.Proofs.YtbkagebjhbphaaaGreat
