/-
 coord: the law CoordLow, of its arguments' values.
-/
import Derived.Test.YtbkagebjhbphaaaGreatCoX
import Derived.Test.YtbkagebjhbphaaaGreatCoY
import Derived.Test.YtbkagebjhbphaaaGreatLLow
namespace Go.Proofs.YtbkagebjhbphaaaGreat
set_option maxRecDepth 100000
set_option linter.unusedVariables false
set_option linter.unusedSimpArgs false
theorem BV {x:bP} (m:aC):∀ {l:List bL},(∀ y ∈ l,x.cz≤y.bf)→jH x m l= .inl ()
  | [],_=>rfl
  | y::l,h=>by
    unfold jH
    rw [if_neg (by have:=h y (.head _); omega)]
    exact BV m fun z hz=>h z (.tail _ hz)
theorem BX {x:bP}:∀ {l:List Nat},(∀ y ∈ l,x.cz≤y)→jI x l= .inl ()
  | [],_=>rfl
  | y::l,h=>by
    unfold jI
    rw [if_neg (by have:=h y (.head _); omega)]
    exact BX fun z hz=>h z (.tail _ hz)
theorem zK {n:Nat} {m:aC} (hI:Im n m):∀ (o:List bP) (a k:Nat),Lw a (lo m) o→k≤a→∃ k',k'≤lo m∧gI m (iI m) o k= .inl k'
  | [],a,k,h,hk=>⟨k,Nat.le_trans hk h,rfl⟩
  | x::o,a,k,h,hk=>by
    unfold Lw at h
    unfold gI
    by_cases e:x.aI=3
    · rw [if_pos e] at h ⊢
      obtain⟨c,d,b⟩:=h
      have hle:=b.le
      rw [if_neg (by omega),if_neg (by omega),oK (BV m (l:=(iI m).aj.ls) fun y hy=>Nat.le_trans hle (hI.2.le.2.1 _ (List.mem_map.2 ⟨y,hy,rfl⟩)))]
      refine Eq.rec (motive:=fun r _=> ∃ k',k'≤lo m∧r=Sum.inl k') (zK hI o x.cz x.cz b (Nat.le_refl _)) (Eq.symm (oK (BX (l:=gH m) fun y hy=>Nat.le_trans hle (hI.2.le.1 _ (Cy m ▸ hy)))))
    · rw [if_neg e] at h ⊢
      exact zK hI o a k h hk
theorem Cz {b:Bool} {q:List StepT} {k:Nat} {n:Nat} {m:aC} {E:List bP × aC} (hE:TS m E) (hI:Im n m) (hn:n+1≤1000000) (hk:k≤lo m) (ih:∀ k' m',Im (n+1) m'→k'≤lo m'→m'.aa.ag.ls=m.aa.ag.ls→gU b q k' m'= .inl ()):(bnd E fun s=>bnd (iI s.2) fun y=>qQ (gI s.2 y s.1 k) fun k'=>gU b q k' s.2)= .inl ():=by
  obtain⟨a,c⟩:=hE.lw n hI hn
  obtain⟨k',d,e⟩:=zK a E.1 (lo m) k c hk
  exact(oK e).trans (ih k' E.2 a d hE.own)
theorem zL {α:Type} {x:α} {m:aC} {f:α→List bP × aC} (h:∀ a,TS m (f a)):TS m (bnd x f):=h x
theorem tY {c:Prop} [Decidable c] {m:aC} {a b:List bP × aC} (h:TS m a) (h':TS m b):TS m (if c then a else b):=by split <;> assumption
theorem tZ {m:aC} {x:bP} (hq:jh x.aU) (ho:List.length m.aa.ag.ls≤1000):TS m (bnd (dh m x) fun y=>(y.1.dR.ls,y.2.2)):=Dj hq ho
theorem Dm (m:aC):TS m (bnd (jg m) fun y=>(y.1.dR.ls,y.2)):=Dl m
theorem BZ (b:Bool):∀ (l:List StepT) (k n:Nat) (m:aC),(∀ x ∈ l,jh x.ak.aU)→n+List.length l≤1000000→Im n m→k≤lo m→List.length m.aa.ag.ls≤1000→gU b l k m= .inl ()
  | [],_,_,_,_,_,_,_,_=>rfl
  | x::l,k,n,m,hu,hn,hI,hk,ho=>by
    rw [List.length_cons] at hn
    unfold gU
    refine Cz ?_ hI (by omega) hk fun k' m' a c d=>BZ b l k' (n+1) m' (fun y hy=>hu y (.tail _ hy)) (by omega) a c (by rw [d]; exact ho)
    have hq:=hu x (.head _)
    exact tY (zL fun _=>tY (zL fun _=>zL fun _=>tY (tY (tZ hq ho) (tZ hq ho)) (tY (tZ hq ho) (tZ hq ho))) (tZ hq ho)) (tY (Dm m) (TS.same m))
theorem Dn {l0:List StepT} (hu:∀ x ∈ l0,jh x.ak.aU):su l0=true:=by
  unfold su
  refine(ai BU).trans ?_
  refine(ai (show iY (dC.mk 2 0 0 1 (Ll.mk ([(bv.mk ([]) 1),(bv.mk ([109]) 2)])) (Ll.mk ([])) (Ll.mk ([])))=0 by decide+kernel)).trans ?_
  rw [if_pos rfl]
  refine(ai rfl).trans ?_
  refine(ai rfl).trans ?_
  by_cases h:((l0.length:Nat):Int) > 100
  · rw [if_pos h,if_pos rfl]
  rw [if_neg h]
  refine nJ (BZ true l0 0 0 _ hu (by omega) ⟨by decide,by decide+kernel,by decide+kernel,List.Pairwise.nil,List.Pairwise.nil,fun x hx=>absurd hx List.not_mem_nil,fun x hx=>absurd hx List.not_mem_nil⟩ (IU _) (by decide))
end Go.Proofs.YtbkagebjhbphaaaGreat
namespace Go.Proofs.YtbkagebjhbphaaaGreat
open Go.RowKit
set_option linter.unusedVariables false
set_option linter.unusedSectionVars false
set_option linter.unusedSimpArgs false
theorem Bc (w:World) (f:Sv gz) (a:lT w 25 272 gz.cells (Gp w) f):
    Calls Tryz.prog 4 #[.slice f.A f.ls.length f.c] w fun e w'=>e= .returned (.bool true)∧Below w.heap.size w w':=
 (xA w (fun _:Nat=>False) f.A f.ls.length f.c f.ls (List.map gz.abs f.ls) true (HV w) rfl (bD.ro a.2.2.1 (by decide)) (fun b d=>⟨bD.ro (a.2.2.2 b d).2.2.1.2.2.2.2.2.2.2.2.2.2.2.2.2.2.2.2.2.1.2.2.1 (by decide),(by have g:=(a.2.2.2 b d).2.2.1.2.2.2.2.2.2.2.2.2.2.2.2.2.2.2.2.2.1.1; have h:=(a.2.2.2 b d).2.2.1.2.2.2.2.2.2.2.2.2.2.2.2.2.2.2.2.2.1.2.1; omega),bD.ro (a.2.2.2 b d).2.2.1.2.2.2.2.2.2.2.2.2.2.2.2.2.2.2.2.2.2.1.2.2.1 (by decide),(by have g:=(a.2.2.2 b d).2.2.1.2.2.2.2.2.2.2.2.2.2.2.2.2.2.2.2.2.2.1.1; have h:=(a.2.2.2 b d).2.2.1.2.2.2.2.2.2.2.2.2.2.2.2.2.2.2.2.2.2.1.2.1; omega),(fun i j=>⟨bD.ro ((a.2.2.2 b d).2.2.1.2.2.2.2.2.2.2.2.2.2.2.2.2.2.2.2.2.2.1.2.2.2 i j).2.2.2.2.1 (by decide),(by have g:=((a.2.2.2 b d).2.2.1.2.2.2.2.2.2.2.2.2.2.2.2.2.2.2.2.2.2.1.2.2.2 i j).2.2.1; have h:=((a.2.2.2 b d).2.2.1.2.2.2.2.2.2.2.2.2.2.2.2.2.2.2.2.2.2.1.2.2.2 i j).2.2.2.1; omega)⟩),bD.ro (a.2.2.2 b d).2.2.1.2.2.2.2.2.2.2.2.2.2.2.2.2.2.2.2.2.2.2.2.2.1 (by decide),(by have g:=(a.2.2.2 b d).2.2.1.2.2.2.2.2.2.2.2.2.2.2.2.2.2.2.2.2.2.2.1; have h:=(a.2.2.2 b d).2.2.1.2.2.2.2.2.2.2.2.2.2.2.2.2.2.2.2.2.2.2.2.1; omega)⟩) (List.length_map ..).symm (by rw [List.length_map]; have:=a.1; have:=a.2.1; omega) (by rw [List.length_map]; have:=a.1; have:=a.2.1; omega) (AL a.2.2.2) (Dn (fun b d=>(AL a.2.2.2 b d).1))).mono fun e w' ⟨v,he,hv,H⟩=>⟨by rw [he,hv],H.below⟩
end Go.Proofs.YtbkagebjhbphaaaGreat
