/-
 coord: the law CoordLow, of its arguments' values.
-/
import Derived.Test.YtbkagebjhbphaaaGreatCoX
import Derived.Test.YtbkagebjhbphaaaGreatCoY
import Derived.Test.YtbkagebjhbphaaaGreatLLow
namespace Go.Proofs.YtbkagebjhbphaaaGreat
set_option maxRecDepth 100000
set_option linter.unusedVariables false
set_option linter.unusedSimpArgs false
theorem BV {x:bQ} (m:aB):∀ {l:List bL},(∀ y ∈ l,x.di≤y.bf)→jG x m l= .inl ()
  | [],_=>rfl
  | y::l,h=>by
    unfold jG
    rw [if_neg (by have:=h y b1; omega)]
    exact BV m fun z hz=>h z (.tail _ hz)
theorem BX {x:bQ}:∀ {l:List Nat},(∀ y ∈ l,x.di≤y)→jH x l= .inl ()
  | [],_=>rfl
  | y::l,h=>by
    unfold jH
    rw [if_neg (by have:=h y b1; omega)]
    exact BX fun z hz=>h z (.tail _ hz)
theorem zJ {n:Nat} {m:aB} (hI:Im n m):∀ (o:List bQ) (a k:Nat),Lw a (lo m) o→k≤a→∃ k',k'≤lo m∧gI m (iG m) o k= .inl k'
  | [],a,k,h,hk=>⟨k,Nat.le_trans hk h,rfl⟩
  | x::o,a,k,h,hk=>by
    unfold Lw at h
    unfold gI
    by_cases e:x.aM=3
    · rw [if_pos e] at h ⊢
      obtain⟨c,d,b⟩:=h
      have hle:=b.le
      rw [if_neg e6,if_neg e6,oK (BV m (l:=(iG m).aj.ls) fun y hy=>Nat.le_trans hle (hI.2.le.2.1 _ (List.mem_map.2 ⟨y,hy,rfl⟩)))]
      refine Eq.rec (motive:=fun r _=> ∃ k',k'≤lo m∧r=Sum.inl k') (zJ hI o x.di x.di b (Nat.le_refl _)) (Eq.symm (oK (BX (l:=gG m) fun y hy=>Nat.le_trans hle (hI.2.le.1 _ (Cy m ▸ hy)))))
    · rw [if_neg e] at h ⊢
      exact zJ hI o a k h hk
theorem Cz {b:Bool} {q:List StepT} {k:Nat} {n:Nat} {m:aB} {E:List bQ × aB} (hE:TS m E) (hI:Im n m) (hn:n+1≤1000000) (hk:k≤lo m) (ih:∀ k' m',Im (n+1) m'→k'≤lo m'→m'.aa.ag.ls=m.aa.ag.ls→gQ b q k' m'= .inl ()):(bnd E fun s=>bnd (iG s.2) fun y=>qQ (gI s.2 y s.1 k) fun k'=>gQ b q k' s.2)= .inl ():=by
  obtain⟨a,c⟩:=hE.lw n hI hn
  obtain⟨k',d,e⟩:=zJ a E.1 (lo m) k c hk
  exact(oK e).trans (ih k' E.2 a d hE.own)
theorem vE {α:Type} {x:α} {m:aB} {f:α→List bQ × aB} (h:∀ a,TS m (f a)):TS m (bnd x f):=h x
theorem zK {c:Prop} [Decidable c] {m:aB} {a b:List bQ × aB} (h:TS m a) (h':TS m b):TS m (if c then a else b):=by split <;> assumption
theorem AL {m:aB} {x:bQ} (hq:jy x.aY) (ho:List.length m.aa.ag.ls≤1000):TS m (bnd (dO m x) fun y=>(y.1.ed.ls,y.2.2)):=Dj hq ho
theorem Dm (m:aB):TS m (bnd (je m) fun y=>(y.1.ed.ls,y.2)):=Dl m
theorem BZ (b:Bool):∀ (l:List StepT) (k n:Nat) (m:aB),(∀ x ∈ l,jy x.aG.aY)→n+List.length l≤1000000→Im n m→k≤lo m→List.length m.aa.ag.ls≤1000→gQ b l k m= .inl ()
  | [],_,_,_,_,_,_,_,_=>rfl
  | x::l,k,n,m,hu,hn,hI,hk,ho=>by
    rw [List.length_cons] at hn
    unfold gQ
    refine Cz ?_ hI e6 hk fun k' m' a c d=>BZ b l k' (n+1) m' (fun y hy=>hu y (.tail _ hy)) e6 a c (by rw [d]; exact ho)
    have hq:=hu x b1
    exact zK (vE fun _=>zK (vE fun _=>vE fun _=>vE fun _=>vE fun _=>AL hq ho) (AL hq ho)) (zK (Dm m) (TS.same m))
theorem Dn {l0:List StepT} (hu:∀ x ∈ l0,jy x.aG.aY):su l0=true:=by
  unfold su
  refine(ah BU).trans ?_
  refine(ah (show iX (dA.mk 2 0 0 1 (Ll.mk ([(bv.mk ([]) 1),(bv.mk ([109]) 2)])) (Ll.mk ([])) (Ll.mk ([])))=0 by decide+kernel)).trans ?_
  rw [if_pos rfl]
  refine(ah rfl).trans ?_
  refine(ah rfl).trans ?_
  by_cases h:((l0.length:Nat):Int) > 100
  · rw [if_pos h,if_pos rfl]
  rw [if_neg h]
  refine nI (BZ true l0 0 0 _ hu e6 ⟨f3,by decide+kernel,by decide+kernel,List.Pairwise.nil,List.Pairwise.nil,fun x hx=>absurd hx List.not_mem_nil,fun x hx=>absurd hx List.not_mem_nil⟩ (IU _) f3)
end Go.Proofs.YtbkagebjhbphaaaGreat
namespace Go.Proofs.YtbkagebjhbphaaaGreat
set_option maxRecDepth 100000
open List renaming length_map→s6
open Go.RowKit
set_option linter.unusedVariables false
set_option linter.unusedSectionVars false
set_option linter.unusedSimpArgs false
theorem Bc (w:World) (f:Sv fZ) (a:lU w 25 272 fZ.cells (Gp w) f):
    Calls Tryz.prog 4 #[.slice f.A f.ls.length f.c] w fun e w'=>e= .returned (.bool true)∧Below w.heap.size w w':=
 (xz w (fun _:Nat=>False) f.A f.ls.length f.c f.ls (List.map fZ.abs f.ls) true (HV w) rfl (bD.ro a.2.2.1 f3) (fun b d=>⟨bD.ro (a.2.2.2 b d).2.2.1.2.2.2.2.2.2.2.2.2.2.2.2.2.2.2.2.2.1.2.2.1 f3,(by have g:=(a.2.2.2 b d).2.2.1.2.2.2.2.2.2.2.2.2.2.2.2.2.2.2.2.2.1.1; have h:=(a.2.2.2 b d).2.2.1.2.2.2.2.2.2.2.2.2.2.2.2.2.2.2.2.2.1.2.1; omega),bD.ro (a.2.2.2 b d).2.2.1.2.2.2.2.2.2.2.2.2.2.2.2.2.2.2.2.2.2.1.2.2.1 f3,(by have g:=(a.2.2.2 b d).2.2.1.2.2.2.2.2.2.2.2.2.2.2.2.2.2.2.2.2.2.1.1; have h:=(a.2.2.2 b d).2.2.1.2.2.2.2.2.2.2.2.2.2.2.2.2.2.2.2.2.2.1.2.1; omega),(fun i j=>⟨bD.ro ((a.2.2.2 b d).2.2.1.2.2.2.2.2.2.2.2.2.2.2.2.2.2.2.2.2.2.1.2.2.2 i j).2.2.2.2.1 f3,(by have g:=((a.2.2.2 b d).2.2.1.2.2.2.2.2.2.2.2.2.2.2.2.2.2.2.2.2.2.1.2.2.2 i j).2.2.1; have h:=((a.2.2.2 b d).2.2.1.2.2.2.2.2.2.2.2.2.2.2.2.2.2.2.2.2.2.1.2.2.2 i j).2.2.2.1; omega)⟩),bD.ro (a.2.2.2 b d).2.2.1.2.2.2.2.2.2.2.2.2.2.2.2.2.2.2.2.2.2.2.2.2.1 f3,(by have g:=(a.2.2.2 b d).2.2.1.2.2.2.2.2.2.2.2.2.2.2.2.2.2.2.2.2.2.2.1; have h:=(a.2.2.2 b d).2.2.1.2.2.2.2.2.2.2.2.2.2.2.2.2.2.2.2.2.2.2.2.1; omega)⟩) (s6 ..).symm (by rw [s6]; have:=a.1; have:=a.2.1; omega) (by rw [s6]; have:=a.1; have:=a.2.1; omega) (AJ a.2.2.2) (Dn (fun b d=>(AJ a.2.2.2 b d).1))).mono fun e w' ⟨v,he,hv,H⟩=>⟨by rw [he,hv],H.below⟩
end Go.Proofs.YtbkagebjhbphaaaGreat
