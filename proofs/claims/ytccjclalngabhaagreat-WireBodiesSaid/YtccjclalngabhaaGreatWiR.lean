/-
  Messages read: the program's reader and the document's go side by side.
  Conditions: none beyond each law's own.
-/
import Derived.Test.YtccjclalngabhaaGreatWiN
import Derived.Test.YtccjclalngabhaaGreatWf
import Derived.Test.YtccjclalngabhaaGreatWv
namespace Go.Proofs.YtccjclalngabhaaGreat
set_option linter.unusedVariables false
set_option linter.unusedSimpArgs false
def rel (p:ReaderT) (q:RT):Prop:=p.ax=q.xE∧(p.ax=0→p.af.ls=q.xB.ls)∧(¬ p.ax=0→p.af.ls= [])
theorem kM {p:ReaderT} {q:RT} (h:rel p q) {e:Int} (he: ¬ e=0):rel (bU p e) (dJ q e)∧¬ (dJ q e).xE=0:=by
  obtain⟨a,b,c⟩:=h
  unfold bU dJ
  by_cases z:p.ax=0
  · rw [if_pos z,if_pos (a ▸ z)]
    exact⟨⟨rfl,fun h=>absurd h he,fun _=>rfl⟩,he⟩
  · rw [if_neg z,if_neg (fun h=>z (a.trans h))]
    exact⟨⟨a,b,c⟩,fun h=>z (a.trans h)⟩
theorem pF {p:ReaderT} (h: ¬ p.ax=0) (e:Int):bU p e=p:=by
  unfold bU; rw [if_neg h]
theorem jB {p:ReaderT} {q:RT} (h:rel p q):(((aT p).1.toNat:Nat):Int)=(aU q).1∧rel (aT p).2 (aU q).2:=by
  have hh:=h
  obtain⟨b,c,d⟩:=h
  unfold aT aU
  simp only [aQ]
  by_cases z:p.ax=0
  · rw [if_pos (show q.xE=0 from b ▸ z),c z]
    by_cases a:((List.length q.xB.ls:Nat):Int)=0
    · rw [if_pos a,if_pos a]
      exact⟨rfl,(kM hh (by decide)).1⟩
    · rw [if_neg a,if_neg a]
      exact⟨rfl,⟨b,fun _=>rfl,fun n=>absurd z n⟩⟩
  · rw [if_neg (fun h=>z (b.trans h)),d z,if_pos (show ((List.length ([]:List UInt8):Nat):Int)=0 from rfl),pF z]
    exact⟨rfl,hh⟩
theorem uq:dS []=(0,0,10):=by decide+kernel
theorem wz:gP [] 255=([],0,10):=by decide+kernel
theorem vo (l:List UInt8) (r:Int):∀ (q k i:Nat),k≤18446744073709551615→eH l r q k i≤18446744073709551615
  | 0,k,i,h=>h
  | q+1,k,i,h=>by rw [eH,aQ]; exact vo l r q _ _ (iq _ _)
theorem vv (l:List UInt8):(fA l).1≤18446744073709551615:=by
  rw [← qy]
  unfold dS
  simp only [aQ]
  repeat' split
  all_goals first | exact Nat.zero_le _ | exact vo _ _ _ _ _ (Nat.zero_le _)
theorem kQ {p:ReaderT} {q:RT} (h:rel p q):(aH p 18446744073709551615).1=(cZ q).1∧rel (aH p 18446744073709551615).2 (cZ q).2:=by
  have hh:=h
  obtain⟨b,c,d⟩:=h
  unfold aH cZ
  simp only [aQ]
  by_cases z:p.ax=0
  · rw [if_pos (show q.xE=0 from b ▸ z),c z,qy]
    have le:=vv q.xB.ls
    by_cases a:(fA q.xB.ls).2.2=0
    · rw [if_pos a,if_pos a,if_neg (by omega)]
      exact⟨rfl,⟨b,fun _=>rfl,fun n=>absurd z n⟩⟩
    · rw [if_neg a,if_neg a]
      exact⟨rfl,(kM hh a).1⟩
  · rw [if_neg (fun h=>z (b.trans h)),d z,uq,if_neg (by decide),pF z]
    exact⟨rfl,hh⟩
theorem ol {p:ReaderT} {q:RT} (h:rel p q):(((aH p 255).1:Nat):Int)=(eP q).1∧rel (aH p 255).2 (eP q).2∧0≤(eP q).1:=by
  have hh:=h
  obtain⟨c,d,f⟩:=h
  unfold aH eP cZ
  simp only [aQ]
  by_cases z:p.ax=0
  · rw [if_pos (show q.xE=0 from c ▸ z),d z,qy]
    by_cases a:(fA q.xB.ls).2.2=0
    · rw [if_pos a,if_pos a]
      by_cases b:(((fA q.xB.ls).1:Nat):Int) > 255
      · rw [if_pos b,if_pos (by simpa using b)]
        have e:dJ (RT.mk (Ll.mk (List.drop (Int.toNat (fA q.xB.ls).2.1) q.xB.ls)) q.xE) 11=RT.mk (Ll.mk (List.drop (Int.toNat (fA q.xB.ls).2.1) q.xB.ls)) 11:=by unfold dJ; rw [if_pos (show q.xE=0 from c ▸ z)]
        rw [e]
        have g:bU p 11=ReaderT.mk (Ll.mk []) 11:=by unfold bU; rw [if_pos z]
        rw [g]
        exact⟨rfl,⟨rfl,fun n=>absurd n (by decide),fun _=>rfl⟩,Int.le_refl 0⟩
      · rw [if_neg b,if_neg (by simpa using b)]
        exact⟨rfl,⟨c,fun _=>rfl,fun n=>absurd z n⟩,by omega⟩
    · rw [if_neg a,if_neg a,if_neg (show ¬ (((0:Nat):Int) > 255) by decide)]
      exact⟨rfl,(kM hh a).1,Int.le_refl 0⟩
  · rw [if_neg (fun h=>z (c.trans h)),f z,uq,if_neg (by decide),pF z,if_neg (show ¬ (((0:Nat):Int) > 255) by decide)]
    exact⟨rfl,hh,Int.le_refl 0⟩
theorem jS {p:ReaderT} {q:RT} (h:rel p q):(bA p 255).1=(bg q).1∧rel (bA p 255).2 (bg q).2:=by
  have hh:=h
  obtain⟨c,d,e⟩:=h
  unfold bA bg
  simp only [aQ]
  by_cases z:p.ax=0
  · rw [if_pos (show q.xE=0 from c ▸ z),d z,rt_eq]
    by_cases a:(gX q.xB.ls 255).2.2=2
    · rw [if_pos a,if_pos a]
      exact⟨rfl,(kM hh (by decide)).1⟩
    · rw [if_neg a,if_neg a]
      by_cases b:(gX q.xB.ls 255).2.2=0
      · rw [if_pos b,if_pos b]
        exact⟨rfl,⟨c,fun _=>rfl,fun n=>absurd z n⟩⟩
      · rw [if_neg b,if_neg b]
        exact⟨rfl,(kM hh b).1⟩
  · rw [if_neg (fun h=>z (c.trans h)),e z,wz,if_neg (by decide),if_neg (by decide),pF z]
    exact⟨rfl,hh⟩
theorem rX {p:ReaderT} {q:RT} (h:rel p q):(fT p).1=(fM q).1∧rel (fT p).2 (fM q).2:=by
  have a:=jB h
  unfold fT fM
  simp only [aQ]
  rw [← a.1]
  by_cases c:(((aT p).1.toNat:Nat):Int) > 1
  · rw [if_pos c,if_pos c]
    exact⟨rfl,(kM a.2 (by decide)).1⟩
  · rw [if_neg c,if_neg c]
    exact⟨rfl,a.2⟩
theorem wB {p:ReaderT} {q:RT} (h:rel p q):(jR p).1=aB.mk (aU q).1 (bg (aU q).2).1 (bg (bg (aU q).2).2).1 (bg (bg (bg (aU q).2).2).2).1 (bg (bg (bg (bg (aU q).2).2).2).2).1 (aU (bg (bg (bg (bg (aU q).2).2).2).2).2).1∧rel (jR p).2 (aU (bg (bg (bg (bg (aU q).2).2).2).2).2).2:=by
  have a:=jB h
  have b:=jS a.2
  have c:=jS b.2
  have d:=jS c.2
  have e:=jS d.2
  have f:=jB e.2
  unfold jR
  simp only [aQ]
  exact⟨by rw [a.1,b.1,c.1,d.1,e.1,f.1],f.2⟩
theorem ut (d:Int):∀ (n b c:Nat) (l:List aB) (k:Nat) (z:Int) (p:ReaderT) (q:RT),rel p q→z=((n:Nat):Int)→n=Int.toNat (d - ((k:Nat):Int))→n < b→n < c→
    (dC d b l k p.af.ls p.ax).1=(gp c l z q.xB.ls q.xE).1∧rel (ReaderT.mk (Ll.mk (dC d b l k p.af.ls p.ax).2.1) (dC d b l k p.af.ls p.ax).2.2) (RT.mk (Ll.mk (gp c l z q.xB.ls q.xE).2.1) (gp c l z q.xB.ls q.xE).2.2)
  | 0,b+1,c+1,l,k,z,p,q,h,hz,hn,_,_=>by
    unfold dC gp
    rw [if_neg (by omega),if_neg (by omega)]
    exact⟨rfl,h⟩
  | n+1,b+1,c+1,l,k,z,p,q,h,hz,hn,f,g=>by
    unfold dC gp
    rw [if_pos (show ((k:Nat):Int) < d by omega),if_pos (show z > 0 by omega)]
    by_cases e:p.ax=0
    · rw [if_pos e,if_pos (show q.xE=0 from h.1 ▸ e)]
      simp only [aQ]
      have a:=wB (p:=ReaderT.mk (Ll.mk p.af.ls) p.ax) (q:=RT.mk (Ll.mk q.xB.ls) q.xE) h
      rw [a.1]
      exact ut d n b c _ (k+1) (z - 1) _ _ a.2 (by omega) (by omega) (by omega) (by omega)
    · rw [if_neg e,if_neg (fun x=>e (h.1.trans x))]
      exact⟨rfl,h⟩
theorem wC {p:ReaderT} {q:RT} (h:rel p q):(jd p).1=aA.mk (bg q).1 (aU (bg q).2).1∧rel (jd p).2 (aU (bg q).2).2:=by
  have a:=jS h
  have b:=jB a.2
  unfold jd
  simp only [aQ]
  exact⟨by rw [a.1,b.1],b.2⟩
theorem uu (d:Int):∀ (n b c:Nat) (l:List aA) (k:Nat) (z:Int) (p:ReaderT) (q:RT),rel p q→z=((n:Nat):Int)→n=Int.toNat (d - ((k:Nat):Int))→n < b→n < c→
    (cB d b l k p.af.ls p.ax).1=(eQ c l z q.xB.ls q.xE).1∧rel (ReaderT.mk (Ll.mk (cB d b l k p.af.ls p.ax).2.1) (cB d b l k p.af.ls p.ax).2.2) (RT.mk (Ll.mk (eQ c l z q.xB.ls q.xE).2.1) (eQ c l z q.xB.ls q.xE).2.2)
  | 0,b+1,c+1,l,k,z,p,q,h,hz,hn,_,_=>by
    unfold cB eQ
    rw [if_neg (by omega),if_neg (by omega)]
    exact⟨rfl,h⟩
  | n+1,b+1,c+1,l,k,z,p,q,h,hz,hn,f,g=>by
    unfold cB eQ
    rw [if_pos (show ((k:Nat):Int) < d by omega),if_pos (show z > 0 by omega)]
    by_cases e:p.ax=0
    · rw [if_pos e,if_pos (show q.xE=0 from h.1 ▸ e)]
      simp only [aQ]
      have a:=wC (p:=ReaderT.mk (Ll.mk p.af.ls) p.ax) (q:=RT.mk (Ll.mk q.xB.ls) q.xE) h
      rw [a.1]
      exact uu d n b c _ (k+1) (z - 1) _ _ a.2 (by omega) (by omega) (by omega) (by omega)
    · rw [if_neg e,if_neg (fun x=>e (h.1.trans x))]
      exact⟨rfl,h⟩
theorem wD {p:ReaderT} {q:RT} (h:rel p q):(jr p).1=aW.mk (bg q).1 (bg (bg q).2).1∧rel (jr p).2 (bg (bg q).2).2:=by
  have a:=jS h
  have b:=jS a.2
  unfold jr
  simp only [aQ]
  exact⟨by rw [a.1,b.1],b.2⟩
theorem uw (d:Int):∀ (n b c:Nat) (l:List aW) (k:Nat) (z:Int) (p:ReaderT) (q:RT),rel p q→z=((n:Nat):Int)→n=Int.toNat (d - ((k:Nat):Int))→n < b→n < c→
    (df d b l k p.af.ls p.ax).1=(fF c z q.xB.ls q.xE l).2.2∧rel (ReaderT.mk (Ll.mk (df d b l k p.af.ls p.ax).2.1) (df d b l k p.af.ls p.ax).2.2) (RT.mk (Ll.mk (fF c z q.xB.ls q.xE l).1) (fF c z q.xB.ls q.xE l).2.1)
  | 0,b+1,c+1,l,k,z,p,q,h,hz,hn,_,_=>by
    unfold df fF
    rw [if_neg (by omega),if_neg (by omega)]
    exact⟨rfl,h⟩
  | n+1,b+1,c+1,l,k,z,p,q,h,hz,hn,f,g=>by
    unfold df fF
    rw [if_pos (show ((k:Nat):Int) < d by omega),if_pos (show z > 0 by omega)]
    by_cases e:p.ax=0
    · rw [if_pos e,if_pos (show q.xE=0 from h.1 ▸ e)]
      simp only [aQ]
      have a:=wD (p:=ReaderT.mk (Ll.mk p.af.ls) p.ax) (q:=RT.mk (Ll.mk q.xB.ls) q.xE) h
      rw [a.1]
      exact uw d n b c _ (k+1) (z - 1) _ _ a.2 (by omega) (by omega) (by omega) (by omega)
    · rw [if_neg e,if_neg (fun x=>e (h.1.trans x))]
      exact⟨rfl,h⟩
theorem uR {p:ReaderT} {q:RT} (h:rel p q):(fP p 255).1=(iY q).1∧rel (fP p 255).2 (iY q).2:=by
  have a:=ol h
  unfold fP ja iY
  simp only [aQ]
  rw [a.1]
  exact ut _ (Int.toNat (eP q).1) _ _ [] 0 _ _ _ a.2.1 (by have:=a.2.2; omega) (by have:=a.2.2; omega) (by have:=a.2.2; omega) (by have:=a.2.2; omega)
theorem uS {p:ReaderT} {q:RT} (h:rel p q):(eZ p 255).1=(gY q).1∧rel (eZ p 255).2 (gY q).2:=by
  have a:=ol h
  unfold eZ iE gY
  simp only [aQ]
  rw [a.1]
  exact uu _ (Int.toNat (eP q).1) _ _ [] 0 _ _ _ a.2.1 (by have:=a.2.2; omega) (by have:=a.2.2; omega) (by have:=a.2.2; omega) (by have:=a.2.2; omega)
def o6 (q:RT):List aW × RT:=
  let x:=fF ((Int.toNat (eP q).1)+1) (eP q).1 (eP q).2.xB.ls (eP q).2.xE []
  (x.2.2,RT.mk (Ll.mk x.1) x.2.1)
theorem uT {p:ReaderT} {q:RT} (h:rel p q):(gU p 255).1=(o6 q).1∧rel (gU p 255).2 (o6 q).2:=by
  have a:=ol h
  unfold gU iL o6
  simp only [aQ]
  rw [a.1]
  exact uw _ (Int.toNat (eP q).1) _ _ [] 0 _ _ _ a.2.1 (by have:=a.2.2; omega) (by have:=a.2.2; omega) (by have:=a.2.2; omega) (by have:=a.2.2; omega)
theorem wE {p:ReaderT} {q:RT} (h:rel p q):(iT p).1=aX.mk (fM q).1 (bg (fM q).2).1 (Ll.mk (o6 (bg (fM q).2).2).1)∧rel (iT p).2 (o6 (bg (fM q).2).2).2:=by
  have a:=rX h
  have b:=jS a.2
  have c:=uT b.2
  unfold iT
  simp only [aQ]
  exact⟨by rw [a.1,b.1,c.1],c.2⟩
theorem uy (d:Int):∀ (n b c:Nat) (l:List aX) (k:Nat) (z:Int) (p:ReaderT) (q:RT),rel p q→z=((n:Nat):Int)→n=Int.toNat (d - ((k:Nat):Int))→n < b→n < c→
    (bZ d b l k p.af.ls p.ax).1=(gq c l z q.xB.ls q.xE).1∧rel (ReaderT.mk (Ll.mk (bZ d b l k p.af.ls p.ax).2.1) (bZ d b l k p.af.ls p.ax).2.2) (RT.mk (Ll.mk (gq c l z q.xB.ls q.xE).2.1) (gq c l z q.xB.ls q.xE).2.2)
  | 0,b+1,c+1,l,k,z,p,q,h,hz,hn,_,_=>by
    unfold bZ gq
    rw [if_neg (by omega),if_neg (by omega)]
    exact⟨rfl,h⟩
  | n+1,b+1,c+1,l,k,z,p,q,h,hz,hn,f,g=>by
    unfold bZ gq
    rw [if_pos (show ((k:Nat):Int) < d by omega),if_pos (show z > 0 by omega)]
    by_cases e:p.ax=0
    · rw [if_pos e,if_pos (show q.xE=0 from h.1 ▸ e)]
      simp only [aQ]
      have a:=wE (p:=ReaderT.mk (Ll.mk p.af.ls) p.ax) (q:=RT.mk (Ll.mk q.xB.ls) q.xE) h
      rw [a.1]
      exact uy d n b c _ (k+1) (z - 1) _ _ a.2 (by omega) (by omega) (by omega) (by omega)
    · rw [if_neg e,if_neg (fun x=>e (h.1.trans x))]
      exact⟨rfl,h⟩
theorem uU {p:ReaderT} {q:RT} (h:rel p q):(eF p 255).1=(iZ q).1∧rel (eF p 255).2 (iZ q).2:=by
  have a:=ol h
  unfold eF iA iZ
  simp only [aQ]
  rw [a.1]
  exact uy _ (Int.toNat (eP q).1) _ _ [] 0 _ _ _ a.2.1 (by have:=a.2.2; omega) (by have:=a.2.2; omega) (by have:=a.2.2; omega) (by have:=a.2.2; omega)
end Go.Proofs.YtccjclalngabhaaGreat
