/-
  Messages read: the program's reader and the document's go side by side.
  Conditions: none beyond each law's own.
-/
import Derived.Test.YtccjclalngabhaaGreatWiN
import Derived.Test.YtccjclalngabhaaGreatWf
import Derived.Test.YtccjclalngabhaaGreatWv
namespace Go.Proofs.YtccjclalngabhaaGreat
set_option linter.unusedVariables false
set_option linter.unusedSimpArgs false
def rel (p:ReaderT) (q:RT):Prop:=p.az=q.xE∧(p.az=0→p.ag.ls=q.xB.ls)∧(¬ p.az=0→p.ag.ls= [])
theorem kS {p:ReaderT} {q:RT} (h:rel p q) {e:Int} (he: ¬ e=0):rel (bU p e) (dL q e)∧¬ (dL q e).xE=0:=by
  obtain⟨a,b,c⟩:=h
  unfold bU dL
  by_cases z:p.az=0
  · rw [if_pos z,if_pos (a ▸ z)]
    exact⟨⟨rfl,fun h=>absurd h he,fun _=>rfl⟩,he⟩
  · rw [if_neg z,if_neg (fun h=>z (a.trans h))]
    exact⟨⟨a,b,c⟩,fun h=>z (a.trans h)⟩
theorem pW {p:ReaderT} (h: ¬ p.az=0) (e:Int):bU p e=p:=by
  unfold bU; rw [if_neg h]
theorem jG {p:ReaderT} {q:RT} (h:rel p q):(((aW p).1.toNat:Nat):Int)=(aX q).1∧rel (aW p).2 (aX q).2:=by
  have hh:=h
  obtain⟨b,c,d⟩:=h
  unfold aW aX
  simp only [aT]
  by_cases z:p.az=0
  · rw [if_pos (show q.xE=0 from b ▸ z),c z]
    by_cases a:((List.length q.xB.ls:Nat):Int)=0
    · rw [if_pos a,if_pos a]
      exact⟨rfl,(kS hh (by decide)).1⟩
    · rw [if_neg a,if_neg a]
      exact⟨rfl,⟨b,fun _=>rfl,fun n=>absurd z n⟩⟩
  · rw [if_neg (fun h=>z (b.trans h)),d z,if_pos (show ((List.length ([]:List UInt8):Nat):Int)=0 from rfl),pW z]
    exact⟨rfl,hh⟩
theorem uK:dU []=(0,0,10):=by decide+kernel
theorem wQ:gQ [] 255=([],0,10):=by decide+kernel
theorem vP (l:List UInt8) (r:Int):∀ (q k i:Nat),k≤18446744073709551615→eH l r q k i≤18446744073709551615
  | 0,k,i,h=>h
  | q+1,k,i,h=>by rw [eH,aT]; exact vP l r q _ _ (iC _ _)
theorem vQ (l:List UInt8):(fB l).1≤18446744073709551615:=by
  rw [← qI]
  unfold dU
  simp only [aT]
  repeat' split
  all_goals first | exact BJ _ | exact vP _ _ _ _ _ (BJ _)
theorem kV {p:ReaderT} {q:RT} (h:rel p q):(aI p 18446744073709551615).1=(df q).1∧rel (aI p 18446744073709551615).2 (df q).2:=by
  have hh:=h
  obtain⟨b,c,d⟩:=h
  unfold aI df
  simp only [aT]
  by_cases z:p.az=0
  · rw [if_pos (show q.xE=0 from b ▸ z),c z,qI]
    have le:=vQ q.xB.ls
    by_cases a:(fB q.xB.ls).2.2=0
    · rw [if_pos a,if_pos a,if_neg (by omega)]
      exact⟨rfl,⟨b,fun _=>rfl,fun n=>absurd z n⟩⟩
    · rw [if_neg a,if_neg a]
      exact⟨rfl,(kS hh a).1⟩
  · rw [if_neg (fun h=>z (b.trans h)),d z,uK,if_neg (by decide),pW z]
    exact⟨rfl,hh⟩
theorem oG {p:ReaderT} {q:RT} (h:rel p q):(((aI p 255).1:Nat):Int)=(eP q).1∧rel (aI p 255).2 (eP q).2∧0≤(eP q).1:=by
  have hh:=h
  obtain⟨c,d,f⟩:=h
  unfold aI eP df
  simp only [aT]
  by_cases z:p.az=0
  · rw [if_pos (show q.xE=0 from c ▸ z),d z,qI]
    by_cases a:(fB q.xB.ls).2.2=0
    · rw [if_pos a,if_pos a]
      by_cases b:(((fB q.xB.ls).1:Nat):Int) > 255
      · rw [if_pos b,if_pos (by simpa using b)]
        have e:dL (RT.mk (Ll.mk (List.drop (Int.toNat (fB q.xB.ls).2.1) q.xB.ls)) q.xE) 11=RT.mk (Ll.mk (List.drop (Int.toNat (fB q.xB.ls).2.1) q.xB.ls)) 11:=by unfold dL; rw [if_pos (show q.xE=0 from c ▸ z)]
        rw [e]
        have g:bU p 11=ReaderT.mk (Ll.mk []) 11:=by unfold bU; rw [if_pos z]
        rw [g]
        exact⟨rfl,⟨rfl,fun n=>absurd n (by decide),fun _=>rfl⟩,Int.le_refl 0⟩
      · rw [if_neg b,if_neg (by simpa using b)]
        exact⟨rfl,⟨c,fun _=>rfl,fun n=>absurd z n⟩,by omega⟩
    · rw [if_neg a,if_neg a,if_neg (show ¬ (((0:Nat):Int) > 255) by decide)]
      exact⟨rfl,(kS hh a).1,Int.le_refl 0⟩
  · rw [if_neg (fun h=>z (c.trans h)),f z,uK,if_neg (by decide),pW z,if_neg (show ¬ (((0:Nat):Int) > 255) by decide)]
    exact⟨rfl,hh,Int.le_refl 0⟩
theorem jX {p:ReaderT} {q:RT} (h:rel p q):(bA p 255).1=(bg q).1∧rel (bA p 255).2 (bg q).2:=by
  have hh:=h
  obtain⟨c,d,e⟩:=h
  unfold bA bg
  simp only [aT]
  by_cases z:p.az=0
  · rw [if_pos (show q.xE=0 from c ▸ z),d z,rt_eq]
    by_cases a:(ig q.xB.ls 255).2.2=2
    · rw [if_pos a,if_pos a]
      exact⟨rfl,(kS hh (by decide)).1⟩
    · rw [if_neg a,if_neg a]
      by_cases b:(ig q.xB.ls 255).2.2=0
      · rw [if_pos b,if_pos b]
        exact⟨rfl,⟨c,fun _=>rfl,fun n=>absurd z n⟩⟩
      · rw [if_neg b,if_neg b]
        exact⟨rfl,(kS hh b).1⟩
  · rw [if_neg (fun h=>z (c.trans h)),e z,wQ,if_neg (by decide),if_neg (by decide),pW z]
    exact⟨rfl,hh⟩
theorem sH {p:ReaderT} {q:RT} (h:rel p q):(fU p).1=(fO q).1∧rel (fU p).2 (fO q).2:=by
  have a:=jG h
  unfold fU fO
  simp only [aT]
  rw [← a.1]
  by_cases c:(((aW p).1.toNat:Nat):Int) > 1
  · rw [if_pos c,if_pos c]
    exact⟨rfl,(kS a.2 (by decide)).1⟩
  · rw [if_neg c,if_neg c]
    exact⟨rfl,a.2⟩
theorem wR {p:ReaderT} {q:RT} (h:rel p q):(jW p).1=aB.mk (aX q).1 (bg (aX q).2).1 (bg (bg (aX q).2).2).1 (bg (bg (bg (aX q).2).2).2).1 (bg (bg (bg (bg (aX q).2).2).2).2).1 (aX (bg (bg (bg (bg (aX q).2).2).2).2).2).1∧rel (jW p).2 (aX (bg (bg (bg (bg (aX q).2).2).2).2).2).2:=by
  have a:=jG h
  have b:=jX a.2
  have c:=jX b.2
  have d:=jX c.2
  have e:=jX d.2
  have f:=jG e.2
  unfold jW
  simp only [aT]
  exact⟨by rw [a.1,b.1,c.1,d.1,e.1,f.1],f.2⟩
theorem uL (d:Int):∀ (n b c:Nat) (l:List aB) (k:Nat) (z:Int) (p:ReaderT) (q:RT),rel p q→z=((n:Nat):Int)→n=Int.toNat (d - ((k:Nat):Int))→n < b→n < c→
    (dD d b l k p.ag.ls p.az).1=(gq c l z q.xB.ls q.xE).1∧rel (ReaderT.mk (Ll.mk (dD d b l k p.ag.ls p.az).2.1) (dD d b l k p.ag.ls p.az).2.2) (RT.mk (Ll.mk (gq c l z q.xB.ls q.xE).2.1) (gq c l z q.xB.ls q.xE).2.2)
  | 0,b+1,c+1,l,k,z,p,q,h,hz,hn,_,_=>by
    unfold dD gq
    rw [if_neg (by omega),if_neg (by omega)]
    exact⟨rfl,h⟩
  | n+1,b+1,c+1,l,k,z,p,q,h,hz,hn,f,g=>by
    unfold dD gq
    rw [if_pos (show ((k:Nat):Int) < d by omega),if_pos (show z > 0 by omega)]
    by_cases e:p.az=0
    · rw [if_pos e,if_pos (show q.xE=0 from h.1 ▸ e)]
      simp only [aT]
      have a:=wR (p:=ReaderT.mk (Ll.mk p.ag.ls) p.az) (q:=RT.mk (Ll.mk q.xB.ls) q.xE) h
      rw [a.1]
      exact uL d n b c _ (k+1) (z - 1) _ _ a.2 (by omega) (by omega) (by omega) (by omega)
    · rw [if_neg e,if_neg (fun x=>e (h.1.trans x))]
      exact⟨rfl,h⟩
theorem wS {p:ReaderT} {q:RT} (h:rel p q):(jm p).1=aA.mk (bg q).1 (aX (bg q).2).1∧rel (jm p).2 (aX (bg q).2).2:=by
  have a:=jX h
  have b:=jG a.2
  unfold jm
  simp only [aT]
  exact⟨by rw [a.1,b.1],b.2⟩
theorem uM (d:Int):∀ (n b c:Nat) (l:List aA) (k:Nat) (z:Int) (p:ReaderT) (q:RT),rel p q→z=((n:Nat):Int)→n=Int.toNat (d - ((k:Nat):Int))→n < b→n < c→
    (cK d b l k p.ag.ls p.az).1=(eQ c l z q.xB.ls q.xE).1∧rel (ReaderT.mk (Ll.mk (cK d b l k p.ag.ls p.az).2.1) (cK d b l k p.ag.ls p.az).2.2) (RT.mk (Ll.mk (eQ c l z q.xB.ls q.xE).2.1) (eQ c l z q.xB.ls q.xE).2.2)
  | 0,b+1,c+1,l,k,z,p,q,h,hz,hn,_,_=>by
    unfold cK eQ
    rw [if_neg (by omega),if_neg (by omega)]
    exact⟨rfl,h⟩
  | n+1,b+1,c+1,l,k,z,p,q,h,hz,hn,f,g=>by
    unfold cK eQ
    rw [if_pos (show ((k:Nat):Int) < d by omega),if_pos (show z > 0 by omega)]
    by_cases e:p.az=0
    · rw [if_pos e,if_pos (show q.xE=0 from h.1 ▸ e)]
      simp only [aT]
      have a:=wS (p:=ReaderT.mk (Ll.mk p.ag.ls) p.az) (q:=RT.mk (Ll.mk q.xB.ls) q.xE) h
      rw [a.1]
      exact uM d n b c _ (k+1) (z - 1) _ _ a.2 (by omega) (by omega) (by omega) (by omega)
    · rw [if_neg e,if_neg (fun x=>e (h.1.trans x))]
      exact⟨rfl,h⟩
theorem wT {p:ReaderT} {q:RT} (h:rel p q):(jB p).1=aR.mk (bg q).1 (bg (bg q).2).1∧rel (jB p).2 (bg (bg q).2).2:=by
  have a:=jX h
  have b:=jX a.2
  unfold jB
  simp only [aT]
  exact⟨by rw [a.1,b.1],b.2⟩
theorem uN (d:Int):∀ (n b c:Nat) (l:List aR) (k:Nat) (z:Int) (p:ReaderT) (q:RT),rel p q→z=((n:Nat):Int)→n=Int.toNat (d - ((k:Nat):Int))→n < b→n < c→
    (di d b l k p.ag.ls p.az).1=(fH c z q.xB.ls q.xE l).2.2∧rel (ReaderT.mk (Ll.mk (di d b l k p.ag.ls p.az).2.1) (di d b l k p.ag.ls p.az).2.2) (RT.mk (Ll.mk (fH c z q.xB.ls q.xE l).1) (fH c z q.xB.ls q.xE l).2.1)
  | 0,b+1,c+1,l,k,z,p,q,h,hz,hn,_,_=>by
    unfold di fH
    rw [if_neg (by omega),if_neg (by omega)]
    exact⟨rfl,h⟩
  | n+1,b+1,c+1,l,k,z,p,q,h,hz,hn,f,g=>by
    unfold di fH
    rw [if_pos (show ((k:Nat):Int) < d by omega),if_pos (show z > 0 by omega)]
    by_cases e:p.az=0
    · rw [if_pos e,if_pos (show q.xE=0 from h.1 ▸ e)]
      simp only [aT]
      have a:=wT (p:=ReaderT.mk (Ll.mk p.ag.ls) p.az) (q:=RT.mk (Ll.mk q.xB.ls) q.xE) h
      rw [a.1]
      exact uN d n b c _ (k+1) (z - 1) _ _ a.2 (by omega) (by omega) (by omega) (by omega)
    · rw [if_neg e,if_neg (fun x=>e (h.1.trans x))]
      exact⟨rfl,h⟩
theorem vD {p:ReaderT} {q:RT} (h:rel p q):(fQ p 255).1=(jg q).1∧rel (fQ p 255).2 (jg q).2:=by
  have a:=oG h
  unfold fQ ji jg
  simp only [aT]
  rw [a.1]
  exact uL _ (Int.toNat (eP q).1) _ _ [] 0 _ _ _ a.2.1 (by have:=a.2.2; omega) (by have:=a.2.2; omega) (by have:=a.2.2; omega) (by have:=a.2.2; omega)
theorem vE {p:ReaderT} {q:RT} (h:rel p q):(eZ p 255).1=(ik q).1∧rel (eZ p 255).2 (ik q).2:=by
  have a:=oG h
  unfold eZ iL ik
  simp only [aT]
  rw [a.1]
  exact uM _ (Int.toNat (eP q).1) _ _ [] 0 _ _ _ a.2.1 (by have:=a.2.2; omega) (by have:=a.2.2; omega) (by have:=a.2.2; omega) (by have:=a.2.2; omega)
def pI (q:RT):List aR × RT:=
  let x:=fH ((Int.toNat (eP q).1)+1) (eP q).1 (eP q).2.xB.ls (eP q).2.xE []
  (x.2.2,RT.mk (Ll.mk x.1) x.2.1)
theorem vF {p:ReaderT} {q:RT} (h:rel p q):(gV p 255).1=(pI q).1∧rel (gV p 255).2 (pI q).2:=by
  have a:=oG h
  unfold gV iT pI
  simp only [aT]
  rw [a.1]
  exact uN _ (Int.toNat (eP q).1) _ _ [] 0 _ _ _ a.2.1 (by have:=a.2.2; omega) (by have:=a.2.2; omega) (by have:=a.2.2; omega) (by have:=a.2.2; omega)
theorem wU {p:ReaderT} {q:RT} (h:rel p q):(ja p).1=aP.mk (fO q).1 (bg (fO q).2).1 (Ll.mk (pI (bg (fO q).2).2).1)∧rel (ja p).2 (pI (bg (fO q).2).2).2:=by
  have a:=sH h
  have b:=jX a.2
  have c:=vF b.2
  unfold ja
  simp only [aT]
  exact⟨by rw [a.1,b.1,c.1],c.2⟩
theorem uO (d:Int):∀ (n b c:Nat) (l:List aP) (k:Nat) (z:Int) (p:ReaderT) (q:RT),rel p q→z=((n:Nat):Int)→n=Int.toNat (d - ((k:Nat):Int))→n < b→n < c→
    (bZ d b l k p.ag.ls p.az).1=(gu c l z q.xB.ls q.xE).1∧rel (ReaderT.mk (Ll.mk (bZ d b l k p.ag.ls p.az).2.1) (bZ d b l k p.ag.ls p.az).2.2) (RT.mk (Ll.mk (gu c l z q.xB.ls q.xE).2.1) (gu c l z q.xB.ls q.xE).2.2)
  | 0,b+1,c+1,l,k,z,p,q,h,hz,hn,_,_=>by
    unfold bZ gu
    rw [if_neg (by omega),if_neg (by omega)]
    exact⟨rfl,h⟩
  | n+1,b+1,c+1,l,k,z,p,q,h,hz,hn,f,g=>by
    unfold bZ gu
    rw [if_pos (show ((k:Nat):Int) < d by omega),if_pos (show z > 0 by omega)]
    by_cases e:p.az=0
    · rw [if_pos e,if_pos (show q.xE=0 from h.1 ▸ e)]
      simp only [aT]
      have a:=wU (p:=ReaderT.mk (Ll.mk p.ag.ls) p.az) (q:=RT.mk (Ll.mk q.xB.ls) q.xE) h
      rw [a.1]
      exact uO d n b c _ (k+1) (z - 1) _ _ a.2 (by omega) (by omega) (by omega) (by omega)
    · rw [if_neg e,if_neg (fun x=>e (h.1.trans x))]
      exact⟨rfl,h⟩
theorem vG {p:ReaderT} {q:RT} (h:rel p q):(eG p 255).1=(jh q).1∧rel (eG p 255).2 (jh q).2:=by
  have a:=oG h
  unfold eG iF jh
  simp only [aT]
  rw [a.1]
  exact uO _ (Int.toNat (eP q).1) _ _ [] 0 _ _ _ a.2.1 (by have:=a.2.2; omega) (by have:=a.2.2; omega) (by have:=a.2.2; omega) (by have:=a.2.2; omega)
end Go.Proofs.YtccjclalngabhaaGreat
