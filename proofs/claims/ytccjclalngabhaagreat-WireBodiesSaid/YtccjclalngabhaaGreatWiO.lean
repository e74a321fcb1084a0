/-
  Messages of bytes: the program's are the document's.
  Conditions: none.
-/
import Derived.Test.YtccjclalngabhaaGreatWiT
namespace Go.Proofs.YtccjclalngabhaaGreat
set_option linter.unusedVariables false
set_option linter.unusedSimpArgs false
theorem uz:∀ (q:List UInt8) (k:Nat) (r:Int),dG q k= .inr r→r=0∨(((k:Nat):Int)+1≤r∧r≤((k+List.length q:Nat):Int))
  | [],k,r,h=>by cases h
  | x::q,k,r,h=>by
    unfold dG at h
    split at h
    · cases h; exact .inl rfl
    · split at h
      · cases h
        exact .inr ⟨by omega,by simp only [List.length_cons]; omega⟩
      · rcases uz q (k+1) r h with e | ⟨a,b⟩
        · exact .inl e
        · exact .inr ⟨by omega,by simp only [List.length_cons]; omega⟩
theorem xU {l:List UInt8} (h:(dS l).2.2=0):1≤(dS l).2.1∧(dS l).2.1≤((List.length l:Nat):Int):=by
  unfold dS at h ⊢
  simp only [aQ] at h ⊢
  have e:iD l=0∨(1≤iD l∧iD l≤((List.length l:Nat):Int)):=by
    unfold iD
    rcases q:dG l 0 with u | u
    · exact .inl rfl
    · rcases uz l 0 u q with r | ⟨a,b⟩
      · exact .inl r
      · exact .inr ⟨by simp only [lp]; omega,by simp only [lp]; omega⟩
  by_cases z:iD l=0
  · rw [if_pos z] at h
    split at h <;> exact absurd h (by decide)
  · rw [if_neg z] at h ⊢
    rcases e with e | e
    · exact absurd e z
    · generalize (if iD l > 1 then _ else false:Bool)=c at h ⊢
      cases c
      · exact e
      · rw [if_pos rfl] at h
        exact absurd h (by decide)
theorem sV (l:List UInt8):gT l=iJ l:=by
  unfold gT iJ
  by_cases a:((List.length l:Nat):Int) > 4103
  · rw [if_pos a,if_pos a]
  rw [if_neg a,if_neg a]
  by_cases b:((List.length l:Nat):Int) < 6
  · rw [if_pos b,if_pos b]
  rw [if_neg b,if_neg b]
  simp only [aQ]
  have f:(iB (List.drop (List.length l - 4) l)).2=0:=by
    unfold iB
    rw [if_neg (by rw [List.length_drop]; omega)]
    rfl
  rw [if_pos f,show iB (List.drop (List.length l - 4) l)=jv (List.drop (List.length l - 4) l) from rfl,show lw (List.take (List.length l - 4) l)=nK (List.take (List.length l - 4) l) from rfl]
  by_cases s:(((jv (List.drop (List.length l - 4) l)).1:Nat):Int)=((nK (List.take (List.length l - 4) l):Nat):Int)
  · rw [if_pos s,if_pos s]
    have g:List.getD (List.take (List.length l - 4) l) 0 default=List.getD l 0 default:=by
      rw [List.getD_eq_getElem?_getD,List.getD_eq_getElem?_getD,List.getElem?_take,if_pos (by omega)]
    rw [g]
    by_cases x:(((List.getD l 0 default).toNat:Nat):Int)=83
    · rw [if_pos x,if_pos x,List.drop_take, ← qy]
      generalize hr:dS (List.take (List.length l - 4 - 1) (List.drop 1 l))=r
      by_cases e:r.2.2=0
      · rw [if_pos e,if_pos e]
        have k:=xU (l:=List.take (List.length l - 4 - 1) (List.drop 1 l)) (by rw [hr]; exact e)
        rw [hr,List.length_take,List.length_drop] at k
        by_cases c:((r.1:Nat):Int) > 4096
        · rw [if_pos c]
          split <;> first | rfl | (rw [if_pos c])
        · rw [if_neg c]
          by_cases d:((r.1:Nat):Int)=(((List.length l - 4) - (Int.toNat (1+r.2.1)):Nat):Int)
          · rw [if_pos d,if_neg c,if_pos (by omega),List.drop_take,List.take_take,Nat.min_self]
          · rw [if_neg d,if_neg c,if_neg (show ¬ ((r.1:Nat):Int)=(((List.length l - 4) - 1:Nat):Int) - r.2.1 by omega)]
      · rw [if_neg e,if_neg e]
    · rw [if_neg x,if_neg x]
  · rw [if_neg s,if_neg s]
def E9 (q:RT):Int:=if q.xE=0 then(if((List.length q.xB.ls:Nat):Int) > 0 then 11 else 0) else q.xE
def ZM:bG:=bG.mk 0 0 0 0 0 0 0 0 0 0 0 0 0 0 0 false (bC.mk ([]) ([])) (Ll.mk ([])) (Ll.mk ([])) (Ll.mk ([]))
def o7 (x:bG × RT):bG × Int:=if E9 x.2=0 then(if dz x.1=0 then(x.1,0) else(ZM,dz x.1)) else(ZM,E9 x.2)
theorem nT {p:ReaderT} {q:RT} (h:rel p q):fK (fJ p)=E9 q:=by
  obtain⟨a,c,d⟩:=h
  unfold fK fJ E9
  simp only [aQ]
  by_cases z:p.ax=0
  · rw [c z,if_pos (show q.xE=0 from a ▸ z)]
    by_cases b:((List.length q.xB.ls:Nat):Int) > 0
    · rw [if_pos b,if_pos b]
      unfold bU
      rw [if_pos z]
    · rw [if_neg b,if_neg b,z]
  · rw [d z,if_neg (fun e=>z (a.trans e)),if_neg (by decide),a]
theorem xe {l b:List UInt8} (h:iJ l=(b,0)):ic l=o7 (jO (RT.mk (Ll.mk b) 0)):=by
  unfold ic o7 E9
  rw [aQ,h,if_pos rfl]
  simp only [aQ]
  generalize jO (RT.mk (Ll.mk b) 0)=x
  by_cases z:x.2.xE=0
  · by_cases c:((List.length x.2.xB.ls:Nat):Int) > 0
    · simp only [if_pos z,if_pos c,dJ]
      rfl
    · simp only [if_pos z,if_neg c]
      rfl
  · simp only [if_neg z]
    rfl
def xV (m:bG) (k f t:Int):bG:=bG.mk k f t 0 m.bq m.bM m.bF m.aY m.bE m.bH m.bL m.aS m.bB m.aK m.xN m.bV m.aG m.az m.ai m.aj
theorem om {q:RT} (h: ¬ q.xE=0):aU q=(0,q):=by unfold aU; rw [if_neg h]
theorem uA {k:Int} (a: ¬ k≤0) (b: ¬ k ≥ 15): ¬ dw k= []:=by
  rcases kinds a b with rfl | rfl | rfl | rfl | rfl | rfl | rfl | rfl | rfl | rfl | rfl | rfl | rfl | rfl <;> decide+kernel
theorem qR {k:Int} (h:k≤0∨k ≥ 15):dw k= []:=by
  unfold dw
  simp only [aQ]
  rw [if_neg (by omega),if_neg (by omega),if_neg (by omega),if_neg (by omega),if_neg (by omega),if_neg (by rw [if_neg (by omega)]; intro q; have:=of_decide_eq_true q; omega),if_neg (by omega),if_neg (by omega),if_neg (by omega),if_neg (by omega),if_neg (by omega),if_neg (by omega),if_neg (by omega)]
theorem uB {k:Int} (h:k≤0∨k ≥ 15):bY k=(dK.mk 0 0 (Ll.mk ([])),false):=by
  unfold bY
  by_cases a:k≤0
  · rw [if_pos a]
  · rw [if_neg a,if_pos (by omega)]
theorem xg {p:ReaderT} {q:RT} {m:bG} (h:rel p q) (hn:nums m):(if fK (fJ p)=0 then(if dH m=0 then(m,0) else(ZM,dH m)) else(ZM,fK (fJ p)))=o7 (m,q):=by
  rw [nT h,uQ hn]
  rfl
theorem n0:nums ZM:=by unfold nums ZM; decide
theorem xh {l b:List UInt8} (h:gT l=(b,0)):ed l=o7 (jO (RT.mk (Ll.mk b) 0)):=by
  unfold ed mD
  rw [aQ,h,if_pos rfl]
  simp only [aQ]
  have o:=jB (p:=ReaderT.mk (Ll.mk b) 0) (q:=RT.mk (Ll.mk b) 0) ⟨rfl,fun _=>rfl,fun n=>absurd rfl n⟩
  unfold jO
  simp only [aQ]
  rw [o.1]
  have d:=o.2
  have f: ¬ (aU (RT.mk (Ll.mk b) 0)).2.xE=0→(aU (RT.mk (Ll.mk b) 0)).1=0:=by
    unfold aU
    rw [if_pos (show (RT.mk (Ll.mk b) 0).xE=0 from rfl)]
    simp only [aQ]
    split
    · intro _; rfl
    · intro n; exact absurd rfl n
  clear o
  generalize (aT (ReaderT.mk (Ll.mk b) 0)).2=r at d ⊢
  generalize aU (RT.mk (Ll.mk b) 0)=y at d f ⊢
  by_cases hz:y.2.xE=0
  · rw [if_pos hz]
    by_cases hk:y.1≤0∨y.1 ≥ 15
    · rw [uB hk,qR hk,if_pos rfl,if_neg (by decide)]
      obtain⟨j,c⟩:=kM d (e:=11) (by decide)
      have a:=jB j
      have a':=jB a.2
      have g:=om c
      rw [g] at a a'
      have i:=om (q:=(dJ y.2 11)) c
      rw [i] at a'
      show (if fK (fJ (aT (aT (bU r 11)).2).2)=0 then _ else _)=_
      have z: ¬ E9 (dJ y.2 11)=0:=by unfold E9; rw [if_neg c]; exact c
      rw [nT a'.2,if_neg z]
      show (ZM,_)=o7 (_,(aU (aU (dJ y.2 11)).2).2)
      rw [g,i]
      unfold o7
      rw [if_neg z]
      exact congrArg (fun e=>(ZM,e)) (nT a'.2)
    · have s: ¬ y.1≤0:=fun q=>hk (.inl q)
      have t: ¬ y.1 ≥ 15:=fun q=>hk (.inr q)
      obtain⟨u,v⟩:=vN s t
      rw [if_pos u,if_neg (uA s t)]
      have a:=jB d
      have a':=jB a.2
      have M:=wG (bG.mk y.1 (aU y.2).1 (aU (aU y.2).2).1 0 0 0 0 0 0 0 0 0 0 0 0 false (bC.mk ([]) ([])) (Ll.mk ([])) (Ll.mk ([])) (Ll.mk ([]))) y.1 (aU y.2).1 (aU (aU y.2).2).1 v 0 0 0 0 0 0 0 0 0 0 0 false [] [] [] [] [] _ _ a'.2 (by decide)
      rw [a.1,a'.1]
      unfold kJ
      simp only [aQ]
      obtain⟨k,w,x⟩:=M
      have F:=xg (m:=xV (tN (aM y.1 (aU y.2).1 (aU (aU y.2).2).1 (dw y.1) 0 0 0 0 0 0 0 0 0 0 0 false [] [] [] [] [] (aU (aU y.2).2).2.xB.ls (aU (aU y.2).2).2.xE)).1 y.1 (aU y.2).1 (aU (aU y.2).2).1) w x
      rw [← k] at F
      rw [k] at F
      refine Eq.trans ?_ F
      rw [← k]
      rfl
  · rw [if_neg hz]
    have hk:y.1≤0∨y.1 ≥ 15:= .inl (by rw [f hz]; exact Int.le_refl 0)
    rw [uB hk,qR hk,if_neg (by decide)]
    obtain⟨j,c⟩:=kM d (e:=11) (by decide)
    have A:dJ y.2 11=y.2:=by unfold dJ; rw [if_neg hz]
    rw [A] at j c
    have a:=jB j
    have a':=jB a.2
    have g:=om hz
    rw [g] at a a'
    have i:=om (q:=y.2) hz
    rw [i] at a'
    show (if fK (fJ (aT (aT (bU r 11)).2).2)=0 then _ else _)=_
    have z: ¬ E9 y.2=0:=by unfold E9; rw [if_neg hz]; exact hz
    rw [nT a'.2,if_neg z]
    show (ZM,_)=o7 (_,(aU (aU y.2).2).2)
    rw [g,i]
    unfold o7
    rw [if_neg z]
    exact congrArg (fun e=>(ZM,e)) (nT a'.2)
theorem wH (l:List UInt8):ed l=ic l:=by
  rcases e:iJ l with ⟨b,k⟩
  by_cases z:k=0
  · subst z
    rw [xe e,xh ((sV l).trans e)]
  · unfold ed ic
    rw [sV,e]
    simp only [aQ]
    rw [if_neg z,if_neg z]
end Go.Proofs.YtccjclalngabhaaGreat
