/-
  Rows within rows that are written; slices that are cut again and again.
  Conditions: none beyond each law's own.
-/
import Derived.Test.YtcnkpjheifkgnaaGreatKn
namespace Go.Proofs.YtcnkpjheifkgnaaGreat
set_option linter.unusedVariables false
set_option linter.unusedSimpArgs false
open Go.RowKit
section
variable {w0 w:World} {D:Nat→Prop} {L:List HP} {α β:Type}
end
section
variable {α:Type} {enc:α→List Value} {sz:Nat} {A:Option Addr} {c:Nat} {l:List α}
inductive aF (sz:Nat) (A:Option Addr) (c:Nat) (l:List α):Option Addr→Nat→List α→Prop
  | nil:aF sz A c l none 0 []
  | refl:List.length l≤c→aF sz A c l A c l
  | cut {A1:Option Addr} {c1 k:Nat} {l1:List α}:aF sz A c l A1 c1 l1→k≤List.length l1→aF sz A c l (lh A1 k sz c1) (c1 - k) (List.drop k l1)
theorem aF.le {A':Option Addr} {c':Nat} {l':List α} (h:aF sz A c l A' c' l'):List.length l'≤c'∧(c'≤c∧List.length l'≤List.length l):=by
  induction h with
  | nil=>exact⟨Nat.le_refl _,EM _,EM _⟩
  | refl h=>exact⟨h,Nat.le_refl _,Nat.le_refl _⟩
  | cut h hk ih=>rw [List.length_drop]; omega
theorem aF.rds {w:World} {A':Option Addr} {c':Nat} {l':List α} (hz:∀ x,(enc x).length=sz) (hp:0 < sz) (h:aF sz A c l A' c' l') (hr:bG w sz A (List.length l) (List.flatMap enc l)):bG w sz A' (List.length l') (List.flatMap enc l'):=by
  induction h with
  | nil=>exact bG.nil _ _ _
  | refl h=>exact hr
  | cut h hk ih=>
    have:=h.le
    rw [List.length_drop]
    exact Eb hz ih hk this.1 hp
theorem aF.trans {a b:Option Addr} {c1 d:Nat} {e f:List α} (g:aF sz A c l a c1 e) (h:aF sz a c1 e b d f):aF sz A c l b d f:=by
  induction h with
  | nil=>exact .nil
  | refl _=>exact g
  | cut _ hk ih=>exact ih.cut hk
end
section
variable {P:Program} {n:Nat} {F G:List (Nat × Value)} {w:World} {Q:Exit→Act→World→Prop} {c:Code}
def Un (P:Program) (c:Code) (Q:Exit→Act→World→Prop):Nat→Act→World→Prop
  | 0,_,_=>False
  | k+1,a,w=>c.wp P (Exit.then (fun a' w'=>Un P c Q k a' w') Q) a w
theorem Un.loop:∀ (m:Nat) (a:Act) (w:World),Un P c Q m a w→∀ b k cs, ∃ e a' w',Q e a' w'∧Arrives P (lone (b.at a (.code c:: .inLoop c::k)) cs w) b k cs e a' w'
  | 0,_,_,h,_,_,_=>h.elim
  | m+1,a,w,h,b,k,cs=>by
    obtain⟨e,d,f,hq,harr⟩:=h b (.inLoop c::k) cs
    cases e with
    | normal=>
      obtain⟨i,j,o,g,harr2⟩:=Un.loop m d f hq b k cs
      exact⟨i,j,o,g, .of_steps (Steps.trans harr (.one step_inLoop)) harr2⟩
    | exit id=>exact⟨_,d,f,hq, .pass (x:= .inLoop c) rfl (fun _ _=> .inl (by simp)) harr⟩
    | goto l=>exact⟨_,d,f,hq, .pass (x:= .inLoop c) rfl (fun _ _=> .inl (by simp)) harr⟩
    | ret=>exact⟨_,d,f,hq, .pass (x:= .inLoop c) rfl (fun _ _=> .inl (by simp)) harr⟩
    | panic ch=>exact⟨_,d,f,hq, .pass (x:= .inLoop c) rfl (fun _ _=> .inl (by simp)) harr⟩
    | outgrown=>exact⟨_,d,f,hq, .pass (x:= .inLoop c) rfl (fun _ _=> .inl (by simp)) harr⟩
theorem Da (m:Nat) (h:Wp P c n F w (Exit.then (fun a w=>Un P c Q m a w) Q)):Wp P (.loop c) n F w Q:=fun a ha b k cs=>by
  obtain⟨e,a',w',hq,harr⟩:=Un.loop (m+1) a w (h a ha) b k cs
  exact⟨e,a',w',hq, .of_steps (.one step_loop) harr⟩
theorem CS {k:Nat} (G:List (Nat × Value)) (hs:qj G F) (h:Wp P c n G w (Exit.then (fun a w=>Un P c Q k a w) Q)):Fin (Exit.then (fun a w=>Un P c Q (k+1) a w) Q) .normal n F w:=fun a ha=>h a (ha.sub hs)
end
end Go.Proofs.YtcnkpjheifkgnaaGreat
