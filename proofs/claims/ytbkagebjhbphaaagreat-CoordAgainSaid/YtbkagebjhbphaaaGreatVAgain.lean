/-
 coord: the law CoordAgain, of its arguments' values.
-/
import Derived.Test.YtbkagebjhbphaaaGreatCoG
import Derived.Test.YtbkagebjhbphaaaGreatCoU
import Derived.Test.YtbkagebjhbphaaaGreatLAgain
namespace Go.Proofs.YtbkagebjhbphaaaGreat
set_option maxRecDepth 100000
set_option linter.unusedVariables false
set_option linter.unusedSimpArgs false
def Vw (l:List (iH × Int)) (s:Int→Nat→Int):Prop:=∀ c q,Option.getD (oH l (iH.mk c q)) 0=s c q
theorem Vw.put {l:List (iH × Int)} {s:Int→Nat→Int} (h:Vw l s) (a:Int) (b:Nat) (v:Int):Vw (lH l (iH.mk a b) v) (Ap s a b v):=fun c q=>by
  rw [zD]
  unfold Ap
  by_cases e:c=a∧q=b
  · obtain⟨rfl,rfl⟩:=e
    rw [if_pos rfl,if_pos ⟨rfl,rfl⟩]; rfl
  · rw [if_neg e,if_neg (fun h=>e ⟨(congrArg iH.nC h).symm,(congrArg iH.aM h).symm⟩)]
    exact h c q
theorem xq {m:aB}:∀ {o:List bM} {s s':Int→Nat→Int} {l:List (iH × Int)},mV o s s'→Vw l s→∃ l',Vw l' s'∧gH m o l= .inl l'
  | [],s,s',l,h,v=>⟨l,(show s'=s from h) ▸ v,rfl⟩
  | x::o,s,s',l,h,v=>by
    unfold mV at h
    unfold gH
    by_cases e:x.aG=2
    · rw [if_pos e] at h ⊢
      have hp:=xq (m:=m) h.2 (v.put x.eP x.aO x.cZ)
      simp only [bnd]
      rw [v x.eP x.aO]
      rcases h.1 with a | a
      · rw [if_pos a]; exact hp
      · by_cases b:s x.eP x.aO=0
        · rw [if_pos b]; exact hp
        · rw [if_neg b,if_pos a]; exact hp
    · rw [if_neg e] at h ⊢
      exact xq h v
theorem EZ {α:Type} {x:α} {m:aB} {f:α→List bM × aB} (h:∀ a,TB m (f a)):TB m (bnd x f):=h x
theorem E5 {k:Int} {n:Nat} {m:aB} {f:Nat→List bM × aB} (h:∀ b,(k=1→b=1)→TB m (f b)):TB m (bnd (if k=1 then 1 else n) f):=h _ fun hk=>if_pos hk
theorem CP {c:Prop} [Decidable c] {m:aB} {a b:List bM × aB} (h:TB m a) (h':TB m b):TB m (if c then a else b):=by split <;> assumption
theorem Eg {m:aB} {x:bM} (hb:x.aG=1→x.ay=1) (a:m.aa.ay=1):TB m (bnd (eF m x) fun y=>(y.1.eO.ls,y.2.2)):=Ed fun hk=>(hb hk).trans a.symm
theorem Eh (m:aB):TB m (bnd (jk m) fun y=>(y.1.eO.ls,y.2)):=Ef m
theorem BK {b:Bool} {q:List StepT} {l:List (iH × Int)} {s:Int→Nat→Int} {m:aB} {E:List bM × aB} (hE:TB m E) (A:rP s m) (v:Vw l s) (ih:∀ s' l',rP s' E.2→Vw l' s'→E.2.aa.ay=m.aa.ay→gM b q l' E.2= .inl ()):(bnd E fun s=>sK (gH s.2 s.1 l) fun l'=>gM b q l' s.2)= .inl ():=by
  obtain⟨s',a,c⟩:=hE.say s A
  obtain⟨l',d,e⟩:=xq (m:=E.2) a v
  exact(tH e).trans (ih s' l' c d hE.mP)
theorem Aq (b:Bool):∀ (l:List StepT) (k:List (iH × Int)) (s:Int→Nat→Int) (m:aB),rP s m→Vw k s→m.aa.ay=1→gM b l k m= .inl ()
  | [],_,_,_,_,_,_=>rfl
  | x::l,k,s,m,A,v,a=>by
    unfold gM
    refine BK ?_ A v fun s' l' A' v' hb=>Aq b l l' s' _ A' v' (hb.trans a)
    refine CP (EZ fun _=>E5 fun _ hk=>Eg hk a) (CP (Eh m) (TB.same m))
theorem CQ {l0:List StepT}:q8 l0=true:=by
  unfold q8
  refine(ai CO).trans ?_
  refine(ai (show jc (di.mk 2 0 0 1 (Ll.mk ([(aW.mk ([]) 1),(aW.mk ([109]) 2)])) (Ll.mk ([])) (Ll.mk ([])))=0 by decide+kernel)).trans ?_
  rw [if_pos rfl]
  refine(ai rfl).trans ?_
  refine(ai rfl).trans ?_
  by_cases h:((l0.length:Nat):Int) > 100
  · rw [if_pos h,if_pos rfl]
  rw [if_neg h]
  refine nU (Aq true l0 [] (fun _ _=>0) _ ⟨fun c q e=>absurd rfl e,fun y hy=>absurd hy List.not_mem_nil,List.Pairwise.nil⟩ (fun _ _=>rfl) (by decide+kernel))
end Go.Proofs.YtbkagebjhbphaaaGreat
namespace Go.Proofs.YtbkagebjhbphaaaGreat
open List renaming length_map→s6
set_option maxRecDepth 100000
open Go.RowKit
set_option linter.unusedVariables false
set_option linter.unusedSectionVars false
set_option linter.unusedSimpArgs false
theorem Au (w) (f:Sv fU) (a:lZ w 25 272 fU.cells (HY w) f):
    Calls Tryz.prog 5 #[.slice f.A f.ls.length f.c] w fun e w'=>e= .returned (.bool true)∧Below w.heap.size w w':=
 (wJ w (fun _:Nat=>False) f.A f.ls.length f.c f.ls (List.map fU.abs f.ls) true (Ja w) rfl (bA.ro a.2.2.1 f3) (fun b d=>⟨bA.ro (a.2.2.2 b d).2.2.1.2.2.2.2.2.2.2.2.2.2.2.2.2.2.2.2.2.1.2.2.1 f3,(by have g:=(a.2.2.2 b d).2.2.1.2.2.2.2.2.2.2.2.2.2.2.2.2.2.2.2.2.1.1; have h:=(a.2.2.2 b d).2.2.1.2.2.2.2.2.2.2.2.2.2.2.2.2.2.2.2.2.1.2.1; omega),bA.ro (a.2.2.2 b d).2.2.1.2.2.2.2.2.2.2.2.2.2.2.2.2.2.2.2.2.2.1.2.2.1 f3,(by have g:=(a.2.2.2 b d).2.2.1.2.2.2.2.2.2.2.2.2.2.2.2.2.2.2.2.2.2.1.1; have h:=(a.2.2.2 b d).2.2.1.2.2.2.2.2.2.2.2.2.2.2.2.2.2.2.2.2.2.1.2.1; omega),(fun i j=>⟨bA.ro ((a.2.2.2 b d).2.2.1.2.2.2.2.2.2.2.2.2.2.2.2.2.2.2.2.2.2.1.2.2.2 i j).2.2.2.2.1 f3,(by have g:=((a.2.2.2 b d).2.2.1.2.2.2.2.2.2.2.2.2.2.2.2.2.2.2.2.2.2.1.2.2.2 i j).2.2.1; have h:=((a.2.2.2 b d).2.2.1.2.2.2.2.2.2.2.2.2.2.2.2.2.2.2.2.2.2.1.2.2.2 i j).2.2.2.1; omega)⟩),bA.ro (a.2.2.2 b d).2.2.1.2.2.2.2.2.2.2.2.2.2.2.2.2.2.2.2.2.2.2.2.2.1 f3,(by have g:=(a.2.2.2 b d).2.2.1.2.2.2.2.2.2.2.2.2.2.2.2.2.2.2.2.2.2.2.1; have h:=(a.2.2.2 b d).2.2.1.2.2.2.2.2.2.2.2.2.2.2.2.2.2.2.2.2.2.2.2.1; omega)⟩) (s6 ..).symm (by rw [s6]; have:=a.1; have:=a.2.1; omega) (by rw [s6]; have:=a.1; have:=a.2.1; omega) (Ea a.2.2.2) (CQ)).mono fun e w' ⟨v,he,hv,H⟩=>⟨by rw [he,hv],H.below⟩
end Go.Proofs.YtbkagebjhbphaaaGreat
