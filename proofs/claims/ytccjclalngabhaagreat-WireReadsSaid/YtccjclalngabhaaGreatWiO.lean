/-
  Messages of bytes: the program's are the document's.
  Conditions: none.
-/
import Derived.Test.YtccjclalngabhaaGreatWiT
namespace Go.Proofs.YtccjclalngabhaaGreat
set_option linter.unusedVariables false
set_option linter.unusedSimpArgs false
theorem uP:∀ (q:List UInt8) (k:Nat) (r:Int),dI q k= .inr r→r=0∨(((k:Nat):Int)+1≤r∧r≤((k+List.length q:Nat):Int))
  | [],k,r,h=>by cases h
  | x::q,k,r,h=>by
    unfold dI at h
    split at h
    · cases h; exact .inl rfl
    · split at h
      · cases h
        exact .inr ⟨by omega,by simp only [List.length_cons]; omega⟩
      · rcases uP q (k+1) r h with e | ⟨a,b⟩
        · exact .inl e
        · exact .inr ⟨by omega,by simp only [List.length_cons]; omega⟩
theorem yw {l:List UInt8} (h:(dU l).2.2=0):1≤(dU l).2.1∧(dU l).2.1≤((List.length l:Nat):Int):=by
  unfold dU at h ⊢
  simp only [aT] at h ⊢
  have e:iK l=0∨(1≤iK l∧iK l≤((List.length l:Nat):Int)):=by
    unfold iK
    rcases q:dI l 0 with u | u
    · exact .inl rfl
    · rcases uP l 0 u q with r | ⟨a,b⟩
      · exact .inl r
      · exact .inr ⟨by simp only [lp]; omega,by simp only [lp]; omega⟩
  by_cases z:iK l=0
  · rw [if_pos z] at h
    split at h <;> exact absurd h (by decide)
  · rw [if_neg z] at h ⊢
    rcases e with e | e
    · exact absurd e z
    · generalize (if iK l > 1 then _ else false:Bool)=c at h ⊢
      cases c
      · exact e
      · rw [if_pos rfl] at h
        exact absurd h (by decide)
theorem tQ (l:List UInt8):gU l=iQ l:=by
  unfold gU iQ
  by_cases a:((List.length l:Nat):Int) > 4103
  · rw [if_pos a,if_pos a]
  rw [if_neg a,if_neg a]
  by_cases b:((List.length l:Nat):Int) < 6
  · rw [if_pos b,if_pos b]
  rw [if_neg b,if_neg b]
  simp only [aT]
  have f:(iI (List.drop (List.length l - 4) l)).2=0:=by
    unfold iI
    rw [if_neg (by rw [List.length_drop]; omega)]
    rfl
  rw [if_pos f,show iI (List.drop (List.length l - 4) l)=jC (List.drop (List.length l - 4) l) from rfl,show lL (List.take (List.length l - 4) l)=nT (List.take (List.length l - 4) l) from rfl]
  by_cases s:(((jC (List.drop (List.length l - 4) l)).1:Nat):Int)=((nT (List.take (List.length l - 4) l):Nat):Int)
  · rw [if_pos s,if_pos s]
    have g:List.getD (List.take (List.length l - 4) l) 0 default=List.getD l 0 default:=by
      rw [List.getD_eq_getElem?_getD,List.getD_eq_getElem?_getD,List.getElem?_take,if_pos (by omega)]
    rw [g]
    by_cases x:(((List.getD l 0 default).toNat:Nat):Int)=83
    · rw [if_pos x,if_pos x,List.drop_take, ← qI]
      generalize hr:dU (List.take (List.length l - 4 - 1) (List.drop 1 l))=r
      by_cases e:r.2.2=0
      · rw [if_pos e,if_pos e]
        have k:=yw (l:=List.take (List.length l - 4 - 1) (List.drop 1 l)) (by rw [hr]; exact e)
        rw [hr,List.length_take,List.length_drop] at k
        by_cases c:((r.1:Nat):Int) > 4096
        · rw [if_pos c]
          split <;> first | rfl | (rw [if_pos c])
        · rw [if_neg c]
          by_cases d:((r.1:Nat):Int)=(((List.length l - 4) - (Int.toNat (1+r.2.1)):Nat):Int)
          · rw [if_pos d,if_neg c,if_pos (by omega),List.drop_take,List.take_take,Nat.min_self]
          · rw [if_neg d,if_neg c,if_neg (show ¬ ((r.1:Nat):Int)=(((List.length l - 4) - 1:Nat):Int) - r.2.1 by omega)]
      · rw [if_neg e,if_neg e]
    · rw [if_neg x,if_neg x]
  · rw [if_neg s,if_neg s]
def E9 (q:RT):Int:=if q.xE=0 then(if((List.length q.xB.ls:Nat):Int) > 0 then 11 else 0) else q.xE
def ZM:bE:=bE.mk 0 0 0 0 0 0 0 0 0 0 0 0 0 0 0 false (bC.mk ([]) ([])) (Ll.mk ([])) (Ll.mk ([])) (Ll.mk ([]))
def pJ (x:bE × RT):bE × Int:=if E9 x.2=0 then(if dC x.1=0 then(x.1,0) else(ZM,dC x.1)) else(ZM,E9 x.2)
theorem ol {p:ReaderT} {q:RT} (h:rel p q):fM (fK p)=E9 q:=by
  obtain⟨a,c,d⟩:=h
  unfold fM fK E9
  simp only [aT]
  by_cases z:p.az=0
  · rw [c z,if_pos (show q.xE=0 from a ▸ z)]
    by_cases b:((List.length q.xB.ls:Nat):Int) > 0
    · rw [if_pos b,if_pos b]
      unfold bU
      rw [if_pos z]
    · rw [if_neg b,if_neg b,z]
  · rw [d z,if_neg (fun e=>z (a.trans e)),if_neg (by decide),a]
theorem xH {l b:List UInt8} (h:iQ l=(b,0)):iw l=pJ (jS (RT.mk (Ll.mk b) 0)):=by
  unfold iw pJ E9
  rw [aT,h,if_pos rfl]
  simp only [aT]
  generalize jS (RT.mk (Ll.mk b) 0)=x
  by_cases z:x.2.xE=0
  · by_cases c:((List.length x.2.xB.ls:Nat):Int) > 0
    · simp only [if_pos z,if_pos c,dL]
      rfl
    · simp only [if_pos z,if_neg c]
      rfl
  · simp only [if_neg z]
    rfl
def yx (m:bE) (k f t:Int):bE:=bE.mk k f t 0 m.bu m.bO m.bG m.aY m.bF m.bH m.bL m.aV m.bB m.aK m.xN m.bV m.aG m.ax m.ah m.ai
theorem oH {q:RT} (h: ¬ q.xE=0):aX q=(0,q):=by unfold aX; rw [if_neg h]
theorem uQ {k:Int} (a: ¬ k≤0) (b: ¬ k ≥ 15): ¬ dB k= []:=by
  rcases kinds a b with rfl | rfl | rfl | rfl | rfl | rfl | rfl | rfl | rfl | rfl | rfl | rfl | rfl | rfl <;> decide+kernel
theorem ru {k:Int} (h:k≤0∨k ≥ 15):dB k= []:=by
  unfold dB
  simp only [aT]
  rw [if_neg (by omega),if_neg (by omega),if_neg (by omega),if_neg (by omega),if_neg (by omega),if_neg (by rw [if_neg (by omega)]; intro q; have:=of_decide_eq_true q; omega),if_neg (by omega),if_neg (by omega),if_neg (by omega),if_neg (by omega),if_neg (by omega),if_neg (by omega),if_neg (by omega)]
theorem uR {k:Int} (h:k≤0∨k ≥ 15):bY k=(dM.mk 0 0 (Ll.mk ([])),false):=by
  unfold bY
  by_cases a:k≤0
  · rw [if_pos a]
  · rw [if_neg a,if_pos (by omega)]
theorem xI {p:ReaderT} {q:RT} {m:bE} (h:rel p q) (hn:nums m):(if fM (fK p)=0 then(if dJ m=0 then(m,0) else(ZM,dJ m)) else(ZM,fM (fK p)))=pJ (m,q):=by
  rw [ol h,vC hn]
  rfl
theorem n0:nums ZM:=by unfold nums ZM; decide
theorem xJ {l b:List UInt8} (h:gU l=(b,0)):ek l=pJ (jS (RT.mk (Ll.mk b) 0)):=by
  unfold ek mP
  rw [aT,h,if_pos rfl]
  simp only [aT]
  have o:=jG (p:=ReaderT.mk (Ll.mk b) 0) (q:=RT.mk (Ll.mk b) 0) ⟨rfl,fun _=>rfl,fun n=>absurd rfl n⟩
  unfold jS
  simp only [aT]
  rw [o.1]
  have d:=o.2
  have f: ¬ (aX (RT.mk (Ll.mk b) 0)).2.xE=0→(aX (RT.mk (Ll.mk b) 0)).1=0:=by
    unfold aX
    rw [if_pos (show (RT.mk (Ll.mk b) 0).xE=0 from rfl)]
    simp only [aT]
    split
    · intro _; rfl
    · intro n; exact absurd rfl n
  clear o
  generalize (aW (ReaderT.mk (Ll.mk b) 0)).2=r at d ⊢
  generalize aX (RT.mk (Ll.mk b) 0)=y at d f ⊢
  by_cases hz:y.2.xE=0
  · rw [if_pos hz]
    by_cases hk:y.1≤0∨y.1 ≥ 15
    · rw [uR hk,ru hk,if_pos rfl,if_neg (by decide)]
      obtain⟨j,c⟩:=kS d (e:=11) (by decide)
      have a:=jG j
      have a':=jG a.2
      have g:=oH c
      rw [g] at a a'
      have i:=oH (q:=(dL y.2 11)) c
      rw [i] at a'
      show (if fM (fK (aW (aW (bU r 11)).2).2)=0 then _ else _)=_
      have z: ¬ E9 (dL y.2 11)=0:=by unfold E9; rw [if_neg c]; exact c
      rw [ol a'.2,if_neg z]
      show (ZM,_)=pJ (_,(aX (aX (dL y.2 11)).2).2)
      rw [g,i]
      unfold pJ
      rw [if_neg z]
      exact congrArg (fun e=>(ZM,e)) (ol a'.2)
    · have s: ¬ y.1≤0:=fun q=>hk (.inl q)
      have t: ¬ y.1 ≥ 15:=fun q=>hk (.inr q)
      obtain⟨u,v⟩:=ww s t
      rw [if_pos u,if_neg (uQ s t)]
      have a:=jG d
      have a':=jG a.2
      have M:=wW (bE.mk y.1 (aX y.2).1 (aX (aX y.2).2).1 0 0 0 0 0 0 0 0 0 0 0 0 false (bC.mk ([]) ([])) (Ll.mk ([])) (Ll.mk ([])) (Ll.mk ([]))) y.1 (aX y.2).1 (aX (aX y.2).2).1 v 0 0 0 0 0 0 0 0 0 0 0 false [] [] [] [] [] _ _ a'.2 (by decide)
      rw [a.1,a'.1]
      unfold kQ
      simp only [aT]
      obtain⟨k,w,x⟩:=M
      have F:=xI (m:=yx (um (aN y.1 (aX y.2).1 (aX (aX y.2).2).1 (dB y.1) 0 0 0 0 0 0 0 0 0 0 0 false [] [] [] [] [] (aX (aX y.2).2).2.xB.ls (aX (aX y.2).2).2.xE)).1 y.1 (aX y.2).1 (aX (aX y.2).2).1) w x
      rw [← k] at F
      rw [k] at F
      refine Eq.trans ?_ F
      rw [← k]
      rfl
  · rw [if_neg hz]
    have hk:y.1≤0∨y.1 ≥ 15:= .inl (by rw [f hz]; exact Int.le_refl 0)
    rw [uR hk,ru hk,if_neg (by decide)]
    obtain⟨j,c⟩:=kS d (e:=11) (by decide)
    have A:dL y.2 11=y.2:=by unfold dL; rw [if_neg hz]
    rw [A] at j c
    have a:=jG j
    have a':=jG a.2
    have g:=oH hz
    rw [g] at a a'
    have i:=oH (q:=y.2) hz
    rw [i] at a'
    show (if fM (fK (aW (aW (bU r 11)).2).2)=0 then _ else _)=_
    have z: ¬ E9 y.2=0:=by unfold E9; rw [if_neg hz]; exact hz
    rw [ol a'.2,if_neg z]
    show (ZM,_)=pJ (_,(aX (aX y.2).2).2)
    rw [g,i]
    unfold pJ
    rw [if_neg z]
    exact congrArg (fun e=>(ZM,e)) (ol a'.2)
theorem wX (l:List UInt8):ek l=iw l:=by
  rcases e:iQ l with ⟨b,k⟩
  by_cases z:k=0
  · subst z
    rw [xH e,xJ ((tQ l).trans e)]
  · unfold ek iw
    rw [tQ,e]
    simp only [aT]
    rw [if_neg z,if_neg z]
end Go.Proofs.YtccjclalngabhaaGreat
