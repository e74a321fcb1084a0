/-
  Readings and writings that are one another's turn, and what is cut is too short: numbers, texts, pairs, lists.
  Conditions: none beyond each one's own.
-/
import Derived.Test.YtcnkpjheifkgnaaGreatRcU
import Derived.Test.YtcnkpjheifkgnaaGreatRd
namespace Go.Proofs.YtcnkpjheifkgnaaGreat
set_option linter.unusedVariables false
set_option linter.unusedSimpArgs false
abbrev Rr (l:List UInt8) (e:Int):ReaderT:=ReaderT.mk (Ll.mk l) e
structure kS {α:Type} (rd:ReaderT→α × ReaderT) (wr:α→List UInt8) (P:α→Prop):Prop where
  f:∀ x t,P x→rd (Rr (wr x++t) 0)=(x,Rr t 0)
  g:∀ r,(rd r).2.aG=0→r.aG=0∧r.ae.ls=wr (rd r).1++(rd r).2.ae.ls
  h:∀ x q s,P x→wr x=q++s→s≠ []→(rd (Rr q 0)).2=Rr [] 10
  d:∀ e:Int, ¬ e=0→(rd (Rr [] e)).2=Rr [] e
theorem tX {r:ReaderT} {e:Int} (he: ¬ e=0): ¬ (bL r e).aG=0:=by
  unfold bL
  by_cases h:r.aG=0
  · rw [if_pos h]; exact he
  · rw [if_neg h]; exact h
theorem fO (b:UInt8) (t:List UInt8):gF (Rr ([b]++t) 0)=(b,Rr t 0):=by
  unfold gF
  show (if(((b::t).length:Nat):Int)=0 then _ else _)=_
  rw [if_neg (by simp only [List.length_cons]; omega)]
  rfl
theorem fN {m:Nat} (hm:m≤18446744073709551615) (n:Nat) (t:List UInt8) (h:n≤m):aQ (Rr (bE n++t) 0) m=(n,Rr t 0):=by
  unfold aQ
  show bnd (cB (bE n++t)) _=_
  rw [vw n t (by omega),aN]
  show (if(0:Int)=0 then if((n:Nat):Int) > ((m:Nat):Int) then _ else _ else _)=_
  rw [if_pos rfl,if_neg (by omega)]
  show (n,ReaderT.mk (Ll.mk (List.drop (Int.toNat ((List.length (bE n):Nat):Int)) (bE n++t))) 0)=_
  rw [Int.toNat_natCast,List.drop_left]
theorem gN {m:Nat} {r:ReaderT} (h:(aQ r m).2.aG=0):r.aG=0∧r.ae.ls=bE (aQ r m).1++(aQ r m).2.ae.ls∧(aQ r m).1≤m:=by
  simp only [aQ,aN] at h ⊢
  by_cases e:(cB r.ae.ls).2.2=0
  · rw [if_pos e] at h ⊢
    by_cases c:(((cB r.ae.ls).1:Nat):Int) > ((m:Nat):Int)
    · rw [if_pos c] at h
      exact absurd h (tX (by decide))
    · rw [if_neg c] at h ⊢
      exact⟨h,(wF e).1,by omega⟩
  · rw [if_neg e] at h
    exact absurd h (tX e)
theorem zM {l:List UInt8} (h:(cB l).2.2=0):0≤(cB l).2.1:=by
  obtain⟨e,hb⟩:=wF h
  have hl:=(qV _ hb).1
  rw [← mI] at hl
  by_cases c:0≤(cB l).2.1
  · exact c
  · exfalso
    have z:Int.toNat (cB l).2.1=0:=by omega
    rw [z,List.drop_zero] at e
    have:=congrArg List.length e
    rw [List.length_append] at this
    omega
theorem rM (s t:List UInt8):dG s++t=bE (List.length s)++(s++t):=by unfold dG; rw [aN,List.append_assoc]
theorem uB (s:List UInt8):List.length (dG s)=List.length (bE (List.length s))+List.length s:=by unfold dG; rw [aN,List.length_append]
theorem wG:Int.toNat (IntKind.u64.wrap 255)=255:=by decide
theorem AC (s t:List UInt8) (hs:List.length s≤255):eu (dG s++t) 255=(s,((List.length (dG s):Nat):Int),0):=by
  have el:=uB s
  unfold eu
  rw [rM,vw _ _ (by omega),aN]
  show (if(0:Int)=0 then if(255:Int) < 0 then _ else if((List.length s:Nat):Int) > ((Int.toNat (IntKind.u64.wrap 255):Nat):Int) then _ else if((List.length s:Nat):Int) > ((Int.toNat (((List.length (bE (List.length s)++(s++t)):Nat):Int) - ((List.length (bE (List.length s)):Nat):Int)):Nat):Int) then _ else _ else _)=_
  have hlen:List.length (bE (List.length s)++(s++t))=List.length (bE (List.length s))+(List.length s+List.length t):=by rw [List.length_append,List.length_append]
  rw [if_pos rfl,if_neg (by decide),if_neg (by rw [wG]; omega),if_neg (by rw [hlen]; omega)]
  show (List.take (Int.toNat (((List.length (bE (List.length s)):Nat):Int)+((List.length s:Nat):Int)) - Int.toNat ((List.length (bE (List.length s)):Nat):Int)) (List.drop (Int.toNat ((List.length (bE (List.length s)):Nat):Int)) (bE (List.length s)++(s++t))),((List.length (bE (List.length s)):Nat):Int)+((List.length s:Nat):Int),(0:Int))=_
  rw [show Int.toNat (((List.length (bE (List.length s)):Nat):Int)+((List.length s:Nat):Int)) - Int.toNat ((List.length (bE (List.length s)):Nat):Int)=List.length s by omega,Int.toNat_natCast,List.drop_left,List.take_left,el]
  rfl
theorem AJ {l:List UInt8} (h:(eu l 255).2.2=0):l=dG (eu l 255).1++List.drop (Int.toNat (eu l 255).2.1) l:=by
  simp only [eu,aN] at h ⊢
  by_cases e:(cB l).2.2=0
  · obtain⟨a,hb⟩:=wF e
    have hk:=zM e
    rw [if_pos e,if_neg (by decide)] at h ⊢
    generalize hn:(cB l).1=n at *
    generalize hk':(cB l).2.1=k at *
    by_cases c1:((n:Nat):Int) > ((Int.toNat (IntKind.u64.wrap 255):Nat):Int)
    · rw [if_pos c1] at h; exact absurd h (by decide)
    · rw [if_neg c1] at h ⊢
      by_cases b:((n:Nat):Int) > ((Int.toNat (((List.length l:Nat):Int) - k):Nat):Int)
      · rw [if_pos b] at h; exact absurd h (by decide)
      · rw [if_neg b]
        show l=dG (List.take (Int.toNat (k+((n:Nat):Int)) - Int.toNat k) (List.drop (Int.toNat k) l))++List.drop (Int.toNat (k+((n:Nat):Int))) l
        have ed:List.length l=List.length (bE n)+List.length (List.drop (Int.toNat k) l):=by
          have:=congrArg List.length a
          rwa [List.length_append] at this
        rw [List.length_drop] at ed
        rw [rM,show Int.toNat (k+((n:Nat):Int)) - Int.toNat k=n by omega,show Int.toNat (k+((n:Nat):Int))=Int.toNat k+n by omega, ← List.drop_drop,List.take_append_drop,List.length_take,List.length_drop,Nat.min_eq_left (by omega)]
        exact a
  · rw [if_neg e] at h
    exact absurd h e
theorem fT (s t:List UInt8) (hs:List.length s≤255):dH (Rr (dG s++t) 0) 255=(s,Rr t 0):=by
  unfold dH
  show bnd (eu (dG s++t) 255) _=_
  rw [AC s t hs,aN]
  show (if(0:Int)=2 then _ else if(0:Int)=0 then _ else _)=_
  rw [if_neg (by decide),if_pos rfl]
  show (s,ReaderT.mk (Ll.mk (List.drop (Int.toNat ((List.length (dG s):Nat):Int)) (dG s++t))) 0)=_
  rw [Int.toNat_natCast,List.drop_left]
theorem gT {r:ReaderT} (h:(dH r 255).2.aG=0):r.aG=0∧r.ae.ls=dG (dH r 255).1++(dH r 255).2.ae.ls:=by
  simp only [dH,aN] at h ⊢
  by_cases a:(eu r.ae.ls 255).2.2=2
  · rw [if_pos a] at h
    exact absurd h (tX (by decide))
  · rw [if_neg a] at h ⊢
    by_cases e:(eu r.ae.ls 255).2.2=0
    · rw [if_pos e] at h ⊢
      exact⟨h,AJ e⟩
    · rw [if_neg e] at h
      exact absurd h (tX e)
theorem yO:cB []=(0,0,10):=by decide+kernel
theorem yP:eu [] 255=([],0,10):=by decide+kernel
theorem vz {q:List UInt8} (e:Int):bL (Rr q 0) e=Rr [] e:=by unfold bL; rw [if_pos rfl]
theorem xD {q:List UInt8} {e:Int} (h: ¬ e=0) (a:Int):bL (Rr q e) a=Rr q e:=by unfold bL; rw [if_neg h]
theorem dN (m:Nat) {e:Int} (h: ¬ e=0):aQ (Rr [] e) m=(0,Rr [] e):=by
  unfold aQ
  show bnd (cB []) _=_
  rw [yO,aN]
  show (if(10:Int)=0 then _ else bnd (bL (Rr [] e) 10) fun y=>((0:Nat),y))=_
  rw [if_neg (by decide),aN,xD h]
theorem hN (m n:Nat) (hn:n≤18446744073709551615) (q s:List UInt8) (he:bE n=q++s) (hs:s≠ []):aQ (Rr q 0) m=(0,Rr [] 10):=by
  unfold aQ
  show bnd (cB q) _=_
  rw [yN n hn q s he hs,aN]
  show (if(10:Int)=0 then _ else bnd (bL (Rr q 0) 10) fun y=>((0:Nat),y))=_
  rw [if_neg (by decide),aN,vz]
theorem cN {m:Nat} (hm:m≤18446744073709551615):kS (fun r=>aQ r m) bE (fun n=>n≤m):=
  ⟨fun x t h=>fN hm x t h,fun r h=>⟨(gN h).1,(gN h).2.1⟩,fun x q s hx he hs=>by show (aQ (Rr q 0) m).2=_; rw [hN m x (by omega) q s he hs],fun e h=>by show (aQ (Rr [] e) m).2=_; rw [dN m h]⟩
theorem AL (s q r:List UInt8) (hs:List.length s≤255) (he:dG s=q++r) (hr:r≠ []):eu q 255=([],0,10):=by
  have e:=rM s []
  rw [List.append_nil,List.append_nil] at e
  rw [e] at he
  unfold eu
  rcases List.append_eq_append_iff.1 he with ⟨c,a,b⟩ | ⟨c,a,b⟩
  · rw [a,vw _ _ (by omega),aN]
    have hl:List.length s=List.length c+List.length r:=by rw [b,List.length_append]
    have d:1≤List.length r:=by cases r with | nil=>exact absurd rfl hr | cons _ _=>simp
    show (if(0:Int)=0 then if(255:Int) < 0 then _ else if((List.length s:Nat):Int) > ((Int.toNat (IntKind.u64.wrap 255):Nat):Int) then _ else if((List.length s:Nat):Int) > ((Int.toNat (((List.length (bE (List.length s)++c):Nat):Int) - ((List.length (bE (List.length s)):Nat):Int)):Nat):Int) then _ else _ else _)=_
    rw [if_pos rfl,if_neg (by decide),if_neg (by rw [wG]; omega),if_pos (by rw [List.length_append]; omega)]
  · by_cases hc:c= []
    · subst hc
      rw [List.append_nil] at a
      rw [← a]
      have:=vw (List.length s) [] (by omega)
      rw [List.append_nil] at this
      rw [this,aN]
      have d:1≤List.length s:=by
        have:r=s:=b
        cases s with | nil=>exact absurd this hr | cons _ _=>simp
      show (if(0:Int)=0 then if(255:Int) < 0 then _ else if((List.length s:Nat):Int) > ((Int.toNat (IntKind.u64.wrap 255):Nat):Int) then _ else if((List.length s:Nat):Int) > ((Int.toNat (((List.length (bE (List.length s)):Nat):Int) - ((List.length (bE (List.length s)):Nat):Int)):Nat):Int) then _ else _ else _)=_
      rw [if_pos rfl,if_neg (by decide),if_neg (by rw [wG]; omega),if_pos (by omega)]
    · rw [yN (List.length s) (by omega) q c a hc,aN]
      show (if(10:Int)=0 then _ else _)=_
      rw [if_neg (by decide)]
theorem hT (x q s:List UInt8) (hx:List.length x≤255) (he:dG x=q++s) (hs:s≠ []):dH (Rr q 0) 255=([],Rr [] 10):=by
  unfold dH
  show bnd (eu q 255) _=_
  rw [AL x q s hx he hs,aN]
  show (if(10:Int)=2 then _ else if(10:Int)=0 then _ else bnd (bL (Rr q 0) 10) fun y=>(([]:List UInt8),y))=_
  rw [if_neg (by decide),if_neg (by decide),aN,vz]
theorem BA {e:Int} (h: ¬ e=0):dH (Rr [] e) 255=([],Rr [] e):=by
  unfold dH
  show bnd (eu [] 255) _=_
  rw [yP,aN]
  show (if(10:Int)=2 then _ else if(10:Int)=0 then _ else bnd (bL (Rr [] e) 10) fun y=>(([]:List UInt8),y))=_
  rw [if_neg (by decide),if_neg (by decide),aN,xD h]
theorem cT:kS (fun r=>dH r 255) dG (fun s=>List.length s≤255):=
  ⟨fun x t h=>fT x t h,fun r h=>gT h,fun x q s hx he hs=>by show (dH (Rr q 0) 255).2=_; rw [hT x q s hx he hs],fun e h=>by show (dH (Rr [] e) 255).2=_; rw [BA h]⟩
def cp {α β:Type} (a:ReaderT→α × ReaderT) (b:ReaderT→β × ReaderT) (r:ReaderT):(α × β) × ReaderT:=(((a r).1,(b (a r).2).1),(b (a r).2).2)
theorem iw {α β:Type} {ra:ReaderT→α × ReaderT} {rb:ReaderT→β × ReaderT} {wa:α→List UInt8} {wb:β→List UInt8} {Pa:α→Prop} {Pb:β→Prop} (a:kS ra wa Pa) (b:kS rb wb Pb):
    kS (cp ra rb) (fun x=>wa x.1++wb x.2) (fun x=>Pa x.1∧Pb x.2):=by
  refine⟨fun x t h=> ?_,fun r h=> ?_,fun x q s hx he hs=> ?_,fun e h=> ?_⟩
  · obtain⟨j,l⟩:=h
    have i:=a.f x.1 (wb x.2++t) j
    have k:=b.f x.2 t l
    unfold cp
    rw [List.append_assoc,i,k]
  · have m:=b.g _ h
    have n:=a.g _ m.1
    refine⟨n.1, ?_⟩
    show r.ae.ls=(wa (ra r).1++wb (rb (ra r).2).1)++(rb (ra r).2).2.ae.ls
    rw [List.append_assoc, ← m.2]
    exact n.2
  · obtain⟨j,l⟩:=hx
    show (rb (ra (Rr q 0)).2).2=_
    rcases List.append_eq_append_iff.1 he with ⟨c,i,k⟩ | ⟨c,i,k⟩
    · rw [i,a.f x.1 c j]
      exact b.h x.2 c s l k hs
    · by_cases hc:c= []
      · subst hc
        rw [List.append_nil] at i
        have:=a.f x.1 [] j
        rw [List.append_nil] at this
        rw [← i,this]
        exact b.h x.2 [] (wb x.2) l rfl (by have e2':s=wb x.2:=k; rw [← e2']; exact hs)
      · rw [a.h x.1 q c j i hc]
        exact b.d 10 (by decide)
  · show (rb (ra (Rr [] e)).2).2=_
    rw [a.d e h]
    exact b.d e h
theorem nH {α β:Type} {rd:ReaderT→α × ReaderT} {wr:α→List UInt8} {P:α→Prop} (c:kS rd wr P) {rd':ReaderT→β × ReaderT} (f:α→β) (g:β→α) (hfg:∀ b,f (g b)=b) (hgf:∀ a,g (f a)=a) (hr:∀ r,rd' r=(f (rd r).1,(rd r).2)):
    kS rd' (fun b=>wr (g b)) (fun b=>P (g b)):=by
  refine⟨fun x t h=> ?_,fun r h=> ?_,fun x q s hx he hs=> ?_,fun e h=> ?_⟩
  · rw [hr,c.f _ t h,hfg]
  · rw [hr] at h ⊢
    have:=c.g r h
    refine⟨this.1, ?_⟩
    show r.ae.ls=wr (g (f (rd r).1))++(rd r).2.ae.ls
    rw [hgf]
    exact this.2
  · rw [hr]; exact c.h _ q s hx he hs
  · rw [hr]; exact c.d e h
def tG {α:Type} (rd:ReaderT→α × ReaderT) (p1:Int):Nat→List α→Nat→List UInt8→Int→List α × List UInt8 × Int
  | 0,l,k,b,e=>default
  | n+1,l,k,b,e=>if((k:Nat):Int) < p1 then if e=0 then bnd (rd (ReaderT.mk (Ll.mk b) e)) fun y=>tG rd p1 n (l++ [y.1]) (k+1) y.2.ae.ls y.2.aG else(l,b,e) else(l,b,e)
section
variable {α:Type} {rd:ReaderT→α × ReaderT} {wr:α→List UInt8} {P:α→Prop}
theorem yQ (c:kS rd wr P) {p1:Int}:∀ (xs:List α) (n:Nat) (acc:List α) (k:Nat) (t:List UInt8),(∀ x ∈ xs,P x)→((k:Nat):Int)+((List.length xs:Nat):Int)=p1→List.length xs < n→
    tG rd p1 n acc k (List.flatMap wr xs++t) 0=(acc++xs,t,0)
  | _,0,_,_,_,_,_,h=>absurd h (by omega)
  | [],n+1,acc,k,t,hP,hk,hn=>by
    unfold tG
    simp only [List.length_nil] at hk
    rw [if_neg (by omega),List.append_nil]
    rfl
  | x::q,n+1,acc,k,t,hP,hk,hn=>by
    simp only [List.length_cons] at hk hn
    unfold tG
    rw [if_pos (by omega),if_pos rfl,List.flatMap_cons,List.append_assoc,c.f x _ (hP x (.head _)),aN]
    dsimp only
    rw [yQ c q n _ _ t (fun y hy=>hP y (.tail _ hy)) (by omega) (by omega),List.append_assoc]
    rfl
theorem yR (c:kS rd wr P) {p1:Int}:∀ (n:Nat) (acc:List α) (k:Nat) (b:List UInt8) (e:Int),Int.toNat (p1 - ((k:Nat):Int)) < n→(tG rd p1 n acc k b e).2.2=0→
    e=0∧∃ xs,(tG rd p1 n acc k b e).1=acc++xs∧b=List.flatMap wr xs++(tG rd p1 n acc k b e).2.1∧(((k:Nat):Int)≤p1→((k:Nat):Int)+((List.length xs:Nat):Int)=p1)
  | 0,_,_,_,_,h,_=>absurd h (by omega)
  | n+1,acc,k,b,e,hn,h=>by
    unfold tG at h ⊢
    by_cases hk:((k:Nat):Int) < p1
    · rw [if_pos hk] at h ⊢
      by_cases he:e=0
      · rw [if_pos he,aN] at h ⊢
        obtain⟨a,xs,d,f,i⟩:=yR c n _ _ _ _ (by omega) h
        obtain⟨l,j⟩:=c.g _ a
        refine⟨he,(rd (ReaderT.mk (Ll.mk b) e)).1::xs, ?_, ?_,fun _=> ?_⟩
        · rw [d,List.append_assoc]; rfl
        · rw [List.flatMap_cons,List.append_assoc, ← f]; exact j
        · have:=i (by omega)
          simp only [List.length_cons]; omega
      · rw [if_neg he] at h
        exact absurd h he
    · rw [if_neg hk] at h ⊢
      exact⟨h, [],(List.append_nil _).symm,rfl,fun _=>by simp only [List.length_nil]; omega⟩
theorem wH {p1:Int} (n:Nat) (acc:List α) (k:Nat) (b:List UInt8) {e:Int} (h: ¬ e=0):(tG rd p1 (n+1) acc k b e)=(acc,b,e):=by
  unfold tG
  by_cases hk:((k:Nat):Int) < p1
  · rw [if_pos hk,if_neg h]
  · rw [if_neg hk]
theorem vB (c:kS rd wr P) {p1:Int}:∀ (xs:List α) (n:Nat) (acc:List α) (k:Nat) (q s:List UInt8),(∀ x ∈ xs,P x)→((k:Nat):Int)+((List.length xs:Nat):Int)=p1→List.length xs < n→List.flatMap wr xs=q++s→s≠ []→
    (tG rd p1 n acc k q 0).2=([],10)
  | _,0,_,_,_,_,_,_,h,_,_=>absurd h (by omega)
  | [],n+1,acc,k,q,s,hP,hk,hn,he,hs=>by
    have:=(List.append_eq_nil_iff.1 he.symm).2
    exact absurd this hs
  | x::xs,n+1,acc,k,q,s,hP,hk,hn,he,hs=>by
    simp only [List.length_cons] at hk hn
    obtain⟨n,rfl⟩:∃ n',n=n'+1:=⟨n - 1,by omega⟩
    have hx:=hP x (.head _)
    unfold tG
    rw [if_pos (by omega),if_pos rfl,aN]
    rw [List.flatMap_cons] at he
    rcases List.append_eq_append_iff.1 he with ⟨z,a,b⟩ | ⟨z,a,b⟩
    · rw [a,c.f x z hx]
      exact vB c xs _ _ _ z s (fun y hy=>hP y (.tail _ hy)) (by omega) (by omega) b hs
    · by_cases hz:z= []
      · subst hz
        rw [List.append_nil] at a
        have:=c.f x [] hx
        rw [List.append_nil] at this
        rw [← a,this]
        exact vB c xs _ _ _ [] (List.flatMap wr xs) (fun y hy=>hP y (.tail _ hy)) (by omega) (by omega) rfl (by have e2':s=List.flatMap wr xs:=b; rw [← e2']; exact hs)
      · rw [c.h x q z hx a hz]
        show (tG rd p1 (n+1) _ _ [] 10).2=_
        rw [wH n _ _ _ (by decide)]
theorem cL (c:kS rd wr P) {lH:ReaderT→List α × ReaderT}
    (hl:∀ r,lH r=bnd (aQ r 255) fun y=>bnd (tG rd ((y.1:Nat):Int) ((Int.toNat ((y.1:Nat):Int) - 0)+1) [] 0 y.2.ae.ls y.2.aG) fun s=>(s.1,ReaderT.mk (Ll.mk s.2.1) s.2.2)):
    kS lH (fun q=>bE (List.length q)++List.flatMap wr q) (fun q=>List.length q≤255∧∀ x ∈ q,P x):=by
  refine⟨fun q t h=> ?_,fun r h=> ?_,fun x q s hx he hs=> ?_,fun e h=> ?_⟩
  · obtain⟨a,b⟩:=h
    rw [hl,List.append_assoc,fN (by decide) _ _ a,aN]
    dsimp only
    rw [yQ c q _ _ 0 t b (by omega) (by omega),aN]
    rfl
  · rw [hl] at h ⊢
    simp only [aN] at h ⊢
    obtain⟨a,xs,b,g,i⟩:=yR c _ _ _ _ _ (by omega) h
    obtain⟨j,k,l⟩:=gN a
    refine⟨j, ?_⟩
    have n:=i (by omega)
    have h2':(tG rd ((((aQ r 255).1:Nat)):Int) ((Int.toNat ((((aQ r 255).1:Nat)):Int) - 0)+1) [] 0 (aQ r 255).2.ae.ls (aQ r 255).2.aG).1=xs:=b
    show r.ae.ls=(bE (List.length _)++List.flatMap wr _)++_
    rw [h2',show List.length xs=(aQ r 255).1 by omega,List.append_assoc, ← g]
    exact k
  · obtain⟨a,b⟩:=hx
    rw [hl]
    rcases List.append_eq_append_iff.1 he with ⟨z,d,f⟩ | ⟨z,d,f⟩
    · rw [d,fN (by decide) _ _ a,aN,aN]
      have:=vB c (p1:=((List.length x:Nat):Int)) x ((Int.toNat ((List.length x:Nat):Int) - 0)+1) [] 0 z s b (by omega) (by omega) f hs
      show ReaderT.mk (Ll.mk (tG rd ((List.length x:Nat):Int) _ [] 0 z 0).2.1) (tG rd ((List.length x:Nat):Int) _ [] 0 z 0).2.2=_
      rw [this]
    · by_cases hz:z= []
      · subst hz
        rw [List.append_nil] at d
        have:=fN (m:=255) (by decide) (List.length x) [] a
        rw [List.append_nil] at this
        rw [← d,this,aN,aN]
        have:=vB c (p1:=((List.length x:Nat):Int)) x ((Int.toNat ((List.length x:Nat):Int) - 0)+1) [] 0 [] (List.flatMap wr x) b (by omega) (by omega) rfl (by have e2':s=List.flatMap wr x:=f; rw [← e2']; exact hs)
        show ReaderT.mk (Ll.mk (tG rd ((List.length x:Nat):Int) _ [] 0 [] 0).2.1) (tG rd ((List.length x:Nat):Int) _ [] 0 [] 0).2.2=_
        rw [this]
      · rw [hN 255 _ (by omega) q z d hz,aN,aN]
        show ReaderT.mk (Ll.mk (tG rd ((0:Nat):Int) ((Int.toNat ((0:Nat):Int) - 0)+1) [] 0 [] 10).2.1) (tG rd ((0:Nat):Int) ((Int.toNat ((0:Nat):Int) - 0)+1) [] 0 [] 10).2.2=_
        rw [wH _ _ _ _ (by decide)]
  · rw [hl,dN 255 h,aN,aN]
    show ReaderT.mk (Ll.mk (tG rd ((0:Nat):Int) ((Int.toNat ((0:Nat):Int) - 0)+1) [] 0 [] e).2.1) (tG rd ((0:Nat):Int) ((Int.toNat ((0:Nat):Int) - 0)+1) [] 0 [] e).2.2=_
    rw [wH _ _ _ _ h]
end
end Go.Proofs.YtcnkpjheifkgnaaGreat
