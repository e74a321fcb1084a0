/-
  The library's merge in place, told, is that function; it is called. Conditions: none beyond each law's own.
-/
import Derived.Test.YtbkagebjhbphaaaGreatSb
namespace Go.Proofs.YtbkagebjhbphaaaGreat
open Int renaming eq_ofNat_of_zero_le→K3,toNat→D0,toNat_natCast→K2
open List renaming append_assoc→q4,drop→r3,drop_left→K1,flatMap→q3,getD→C0,length_append→o1,length_cons→s0,length_drop→o0,length_eq_one_iff→L3,length_take→m9,take→q7,take_append_drop→s7,take_left→t5
set_option linter.unusedVariables false
set_option linter.unusedSimpArgs false
theorem ww {α β:Type} (x:α) (f:α→β):bnd x f=f x:=rfl
theorem BQ (a q:List aI) (p:aI):C0 (a++p::q) a.length default=p:=by simp
theorem BR (a q:List aI) (p y:aI):List.set (a++p::q) a.length y=a++y::q:=by simp
theorem AO (P X Y Q:List aI) {a m b:Nat} (ha:a=P.length) (hm:m=a+X.length) (hb:b=m+Y.length):uF (P++(X++(Y++Q))) a m b=P++(Y++(X++Q)):=by
  subst hb; subst hm; subst ha
  have c:q7 P.length (P++(X++(Y++Q)))=P:=t5
  have d:q7 (P.length+X.length) (P++(X++(Y++Q)))=P++X:=by
    rw [← q4, ← o1]; exact t5
  have e:q7 (P.length+X.length+Y.length) (P++(X++(Y++Q)))=P++(X++Y):=by
    have:P++(X++(Y++Q))=(P++(X++Y))++Q:=by simp
    rw [this,show P.length+X.length+Y.length=(P++(X++Y)).length by simp; omega]; exact t5
  have f:r3 (P.length+X.length+Y.length) (P++(X++(Y++Q)))=Q:=by
    have:P++(X++(Y++Q))=(P++(X++Y))++Q:=by simp
    rw [this,show P.length+X.length+Y.length=(P++(X++Y)).length by simp; omega]; exact K1
  have g:r3 (P.length+X.length) (P++(X++Y))=Y:=by
    rw [← q4, ← o1]; exact K1
  have h:r3 P.length (P++X)=X:=K1
  unfold uF
  rw [c,e,g,d,h,f]
theorem FH (l:List aI) {a m b:Nat} (e:a≤m) (f:m≤b) (g:b≤l.length):∃ P X Y Q,l=P++(X++(Y++Q))∧P.length=a∧X.length=m - a∧Y.length=b - m:=by
  refine⟨q7 a l,q7 (m - a) (r3 a l),q7 (b - m) (r3 m l),r3 b l, ?_, ?_, ?_, ?_⟩
  · have c:q7 (b - m) (r3 m l)++r3 b l=r3 m l:=by
      have:=s7 (b - m) (r3 m l)
      rw [List.drop_drop,show m+(b - m)=b by omega] at this
      exact this
    have d:q7 (m - a) (r3 a l)++r3 m l=r3 a l:=by
      have:=s7 (m - a) (r3 a l)
      rw [List.drop_drop,show a+(m - a)=m by omega] at this
      exact this
    rw [c,d,s7]
  · rw [m9]; omega
  · rw [m9,o0]; omega
  · rw [m9,o0]; omega
theorem Ex (b p2 c:Int):∀ (X Z P Y Q:List aI) (k q:Nat),X.length=Z.length→X.length < q→b+(k:Int)=(P.length:Int)→p2+(k:Int)=((P.length+X.length+Y.length:Nat):Int)→c=((k+X.length:Nat):Int)→
    gG b p2 c q k (P++(X++(Y++(Z++Q))))=P++(Z++(Y++(X++Q)))
  | _,_,_,_,_,_,0,_,h,_,_,_=>by omega
  | [], [],P,Y,Q,k,q+1,_,_,_,_,a=>by
    rw [gG,if_neg (by rw [a]; simp)]
  | [],z::Z,_,_,_,_,q+1,h,_,_,_,_=>by simp at h
  | x::X, [],_,_,_,_,q+1,h,_,_,_,_=>by simp at h
  | x::X,z::Z,P,Y,Q,k,q+1,f,g,i,d,a=>by
    simp only [s0] at f g d a
    rw [gG,if_pos (by rw [a]; omega)]
    simp only [ww]
    rw [i,d,K2,K2]
    have j:P++(x::X++(Y++(z::Z++Q)))=(P++(x::X++Y))++z::(Z++Q):=by simp
    have l:(P++(x::X++Y)).length=P.length+(X.length+1)+Y.length:=by simp; omega
    have m:C0 (P++(x::X++(Y++(z::Z++Q)))) (P.length+(X.length+1)+Y.length) default=z:=by rw [j, ← l]; exact BQ _ _ _
    have n:C0 (P++(x::X++(Y++(z::Z++Q)))) P.length default=x:=BQ P (X++(Y++(z::Z++Q))) x
    have o:List.set (P++(x::X++(Y++(z::Z++Q)))) P.length z=(P++(z::X++Y))++z::(Z++Q):=by
      rw [show P++(x::X++(Y++(z::Z++Q)))=P++x::(X++(Y++(z::Z++Q))) from rfl,BR]; simp
    have p:(P++(z::X++Y)).length=P.length+(X.length+1)+Y.length:=by simp; omega
    rw [m,n,show (aI.mk z.bY z.aT)=z from rfl,show (aI.mk x.bY x.aT)=x from rfl,o, ← p,BR]
    have e:(P++(z::X++Y))++x::(Z++Q)=(P++ [z])++(X++((Y++ [x])++(Z++Q))):=by simp
    rw [e,Ex b p2 c X Z (P++ [z]) (Y++ [x]) Q (k+1) q e6 e6 l2 l2 e6]
    simp
theorem yS (P X Y Z Q:List aI) (h:X.length=Z.length) {a p2 b:Int} (c:a=(P.length:Int)) (d:p2=((P.length+X.length+Y.length:Nat):Int)) (e:b=(X.length:Int)):fO (P++(X++(Y++(Z++Q)))) a p2 b=P++(Z++(Y++(X++Q))):=by
  unfold fO
  rw [ww]
  exact Ex a p2 b X Z P Y Q 0 _ h e6 e6 e6 e6
theorem D6 (m:Nat):∀ (q:Nat) (P X Y Q:List aI),X.length+Y.length < q→1≤X.length→1≤Y.length→P.length+X.length=m→
    fO (dD (m:Int) q (X.length:Int) (Y.length:Int) (P++(X++(Y++Q)))).2 ((m:Int) - (dD (m:Int) q (X.length:Int) (Y.length:Int) (P++(X++(Y++Q)))).1) (m:Int) (dD (m:Int) q (X.length:Int) (Y.length:Int) (P++(X++(Y++Q)))).1=P++(Y++(X++Q))
  | 0,_,_,_,_,h,_,_,_=>by omega
  | q+1,P,X,Y,Q,h,hx,hy,hm=>by
    by_cases c1:X.length=Y.length
    · have e:dD (m:Int) (q+1) (X.length:Int) (Y.length:Int) (P++(X++(Y++Q)))=((X.length:Int),P++(X++(Y++Q))):=by
        rw [dD,if_pos e6]
      rw [e]
      exact yS P X [] Y Q c1 e6 l2 rfl
    · by_cases c2:X.length > Y.length
      · obtain⟨a,b,rfl,f⟩:∃ a b,X=a++b∧a.length=Y.length:=⟨q7 Y.length X,r3 Y.length X,(s7 _ _).symm,by rw [m9]; omega⟩
        rw [o1] at h hx hm c1 c2
        have e:dD (m:Int) (q+1) ((a++b).length:Int) (Y.length:Int) (P++((a++b)++(Y++Q)))=dD (m:Int) q (b.length:Int) (a.length:Int) ((P++Y)++(b++(a++Q))):=by
          rw [dD,if_neg i6,if_pos i6,ww]
          rw [show P++((a++b)++(Y++Q))=P++(a++(b++(Y++Q))) by simp,yS P a b Y Q f i6 e6 e6]
          rw [show (((a++b).length:Nat):Int) - (Y.length:Int)=(b.length:Int) by rw [o1]; omega,f]
          simp
        rw [e,D6 m q (P++Y) b a Q e6 e6 e6 i6]
        simp
      · obtain⟨c,d,rfl,f⟩:∃ c d,Y=c++d∧d.length=X.length:=⟨q7 (Y.length - X.length) Y,r3 (Y.length - X.length) Y,(s7 _ _).symm,by rw [o0]; omega⟩
        rw [o1] at h hy c1 c2
        have e:dD (m:Int) (q+1) (X.length:Int) ((c++d).length:Int) (P++(X++((c++d)++Q)))=dD (m:Int) q (d.length:Int) (c.length:Int) (P++(d++(c++(X++Q)))):=by
          rw [dD,if_neg i6,if_neg i6,ww]
          rw [show P++(X++((c++d)++Q))=P++(X++(c++(d++Q))) by simp,yS P X c d Q f.symm e6 i6 rfl]
          rw [show (((c++d).length:Nat):Int) - (X.length:Int)=(c.length:Int) by rw [o1]; omega,f]
        rw [e,D6 m q P d c (X++Q) e6 e6 e6 e6]
        simp
theorem Di (l:List aI) {a m b:Nat} (c:a < m) (d:m < b) (e:b≤l.length):iL l (a:Int) (m:Int) (b:Int)=uF l a m b:=by
  obtain⟨P,X,Y,Q,rfl,f,g,h⟩:=FH l (Nat.le_of_lt c) (Nat.le_of_lt d) e
  rw [AO P X Y Q f.symm e6 e6]
  unfold iL
  simp only [ww]
  have:=D6 m ((D0 (((m:Int) - (a:Int))+((b:Int) - (m:Int))))+1) P X Y Q e6 e6 e6 e6
  rw [show (X.length:Int)=(m:Int) - (a:Int) by omega,show (Y.length:Int)=(b:Int) - (m:Int) by omega] at this
  exact this
theorem GQ (i:Int):∀ (Y P Q:List aI) (x:aI) (q:Nat) (k:Int),Y.length < q→k=(P.length:Int)→i=((P.length+Y.length+1:Nat):Int)→gL i q k (P++x::(Y++Q))=P++(Y++x::Q)
  | _,_,_,_,0,_,h,_,_=>by omega
  | [],P,Q,x,q+1,k,_,hk,hi=>by
    rw [gL,if_neg (by rw [hk,hi]; simp)]; rfl
  | y::Y,P,Q,x,q+1,k,h,hk,hi=>by
    simp only [s0] at h hi
    rw [gL,if_pos e6]
    simp only [ww]
    rw [show D0 (k+1)=(P++ [x]).length by simp; omega,show D0 k=P.length by omega]
    have a:P++x::(y::Y++Q)=(P++ [x])++y::(Y++Q):=by simp
    rw [show C0 (P++x::(y::Y++Q)) (P++ [x]).length default=y by rw [a]; exact BQ _ _ _,BQ,show (aI.mk y.bY y.aT)=y from rfl,show (aI.mk x.bY x.aT)=x from rfl,BR]
    rw [show P++y::(y::Y++Q)=(P++ [y])++y::(Y++Q) by simp,show (P++ [x]).length=(P++ [y]).length by simp,BR]
    rw [GQ i Y (P++ [y]) Q x q (k+1) e6 l2 l2]
    simp
theorem GR (i:Int):∀ (n:Nat) (X P Q:List aI) (x:aI) (q:Nat) (k:Int),X.length=n→X.length < q→i=(P.length:Int)→k=((P.length+X.length:Nat):Int)→gN i q k (P++(X++x::Q))=P++x::(X++Q)
  | _,_,_,_,_,0,_,_,h,_,_=>by omega
  | 0,X,P,Q,x,q+1,k,hn,_,hi,hk=>by
    have e:X= []:=List.eq_nil_of_length_eq_zero hn
    subst e
    rw [gN,if_neg (by rw [hk,hi]; simp)]; rfl
  | n+1,X,P,Q,x,q+1,k,hn,h,hi,hk=>by
    obtain⟨X',y,rfl⟩:∃ X' y,X=X'++ [y]:=⟨X.dropLast,X.getLast (fun e=>by rw [e] at hn; cases hn),(List.dropLast_concat_getLast _).symm⟩
    rw [o1,List.length_singleton] at hn h hk
    rw [gN,if_pos e6]
    simp only [ww]
    rw [show D0 (k - 1)=(P++X').length by simp; omega,show D0 k=((P++X')++ [y]).length by simp; omega]
    have b:P++((X'++ [y])++x::Q)=(P++X')++y::(x::Q):=by simp
    have a:P++((X'++ [y])++x::Q)=((P++X')++ [y])++x::Q:=by simp
    rw [show C0 (P++((X'++ [y])++x::Q)) (P++X').length default=y by rw [b]; exact BQ _ _ _,show C0 (P++((X'++ [y])++x::Q)) ((P++X')++ [y]).length default=x by rw [a]; exact BQ _ _ _]
    rw [show (aI.mk y.bY y.aT)=y from rfl,show (aI.mk x.bY x.aT)=x from rfl,a,BR]
    rw [show ((P++X')++ [y])++y::Q=(P++X')++y::(y::Q) by simp,BR]
    rw [show (P++X')++x::(y::Q)=P++(X'++x::(y::Q)) by simp,GR i n X' P (y::Q) x q (k - 1) e6 e6 hi e6]
    simp
theorem vg {x y:aI}:jw x y < 0↔ng x y=true:=by unfold ng; rw [decide_eq_true_eq]
theorem wW (P:Nat→Bool):∀ (f i j:Nat),i≤j→i≤bs P f i j∧bs P f i j≤j
  | 0,i,j,h=>⟨Nat.le_refl _,h⟩
  | f+1,i,j,h=>by
    unfold bs
    by_cases c:i < j
    · rw [if_pos c]
      split
      · have:=wW P f ((i+j) / 2+1) j e6; omega
      · have:=wW P f i ((i+j) / 2) e6; omega
    · rw [if_neg c]; omega
theorem FI (l:List aI) (i:Nat):C0 l i default=at_ l i:=rfl
theorem FJ (l:List aI) (a:Nat) (b:Int):∀ (q i j:Nat),j - i < q→gK l (a:Int) b q (i:Int) (j:Int)=((bs (fun h=>ng (at_ l h) (at_ l a)) q i j:Nat):Int)
  | 0,_,_,h=>by omega
  | q+1,i,j,h=>by
    rw [gK,bs]
    simp only [ww,FI]
    rw [show D0 ((i:Int)+(j:Int))=i+j by omega,K2]
    by_cases c:i < j
    · rw [if_pos e6,if_pos c]
      by_cases t:ng (at_ l ((i+j) / 2)) (at_ l a)=true
      · rw [if_pos (vg.2 t),if_pos t,FJ l a b q _ j e6]
      · rw [if_neg (fun e=>t (vg.1 e)),if_neg t,FJ l a b q i _ e6]
    · rw [if_neg e6,if_neg c]
theorem FK (l:List aI) (m:Nat) (a:Int):∀ (q i j:Nat),j - i < q→gM l a (m:Int) q (i:Int) (j:Int)=((bs (fun h=> !ng (at_ l m) (at_ l h)) q i j:Nat):Int)
  | 0,_,_,h=>by omega
  | q+1,i,j,h=>by
    rw [gM,bs]
    simp only [ww,FI]
    rw [show D0 ((i:Int)+(j:Int))=i+j by omega,K2]
    by_cases c:i < j
    · rw [if_pos e6,if_pos c]
      by_cases t:ng (at_ l m) (at_ l ((i+j) / 2))=true
      · rw [if_pos (vg.2 t),if_neg (by rw [t]; decide),FK l m a q i _ e6]
      · rw [if_neg (fun e=>t (vg.1 e)),if_pos (by rw [Bool.eq_false_iff.2 t]; rfl),FK l m a q _ j e6]
    · rw [if_neg e6,if_neg c]
theorem FL (l:List aI) (a m b:Nat) (hb:m < b):∀ (q i j:Nat),j - i < q→j≤(a+b) / 2→fC l (a:Int) (m:Int) (b:Int) q (i:Int) (j:Int)=((bs (fun c=> !ng (at_ l ((a+b) / 2+m - 1 - c)) (at_ l c)) q i j:Nat):Int)
  | 0,_,_,h,_=>by omega
  | q+1,i,j,h,hj=>by
    rw [fC,bs]
    simp only [ww,FI]
    rw [show D0 ((i:Int)+(j:Int))=i+j by omega,show D0 ((a:Int)+(b:Int))=a+b by omega]
    by_cases c:i < j
    · rw [if_pos e6,if_pos c]
      rw [show D0 ((((((a+b) / 2:Nat):Int)+(m:Int)) - 1) - (((i+j) / 2:Nat):Int))=(a+b) / 2+m - 1 - (i+j) / 2 by omega]
      by_cases t:ng (at_ l ((a+b) / 2+m - 1 - (i+j) / 2)) (at_ l ((i+j) / 2))=true
      · rw [if_pos (vg.2 t),if_neg (by rw [t]; decide),FL l a m b hb q i _ e6 e6]
      · rw [if_neg (fun e=>t (vg.1 e)),if_pos (by rw [Bool.eq_false_iff.2 t]; rfl),FL l a m b hb q _ j e6 hj]
    · rw [if_neg e6,if_neg c]
theorem xI:∀ (f:Nat) (l:List aI) (a m b:Nat),a < m→m < b→b - a≤f→pJ (f+1) l a m b=pJ f l a m b
  | 0,_,_,_,_,_,_,_=>by omega
  | f+1,l,a,m,b,e,g,h=>by
    rw [pJ]
    conv=>rhs; rw [pJ]
    by_cases c1:m - a=1
    · rw [if_pos c1,if_pos c1]
    · rw [if_neg c1,if_neg c1]
      by_cases c2:b - m=1
      · rw [if_pos c2,if_pos c2]
      · rw [if_neg c2,if_neg c2]
        dsimp only
        generalize (if m > (a+b) / 2 then bs (fun c=> !ng (at_ l ((a+b) / 2+m - 1 - c)) (at_ l c)) ((a+b) / 2 - ((a+b) / 2+m - b)+1) ((a+b) / 2+m - b) ((a+b) / 2) else bs (fun c=> !ng (at_ l ((a+b) / 2+m - 1 - c)) (at_ l c)) (m - a+1) a m)=s
        have d:∀ l1,(if a < s∧s < (a+b) / 2 then pJ (f+1) l1 a s ((a+b) / 2) else l1)=if a < s∧s < (a+b) / 2 then pJ f l1 a s ((a+b) / 2) else l1:=fun l1=>by
          by_cases c:a < s∧s < (a+b) / 2
          · rw [if_pos c,if_pos c,xI f l1 a s _ c.1 c.2 e6]
          · rw [if_neg c,if_neg c]
        rw [d]
        split
        · next c=>rw [xI f _ _ _ b c.1 c.2 e6]
        · rfl
theorem xJ (l:List aI) (a m b:Nat) (d:a < m) (e:m < b):∀ f,b - a≤f→pJ f l a m b=pJ (b - a) l a m b
  | 0,h=>by rw [show b - a=0 by omega]
  | f+1,h=>by
    by_cases c:b - a=f+1
    · rw [c]
    · rw [xI f l a m b d e e6,xJ l a m b d e f e6]
theorem D7 (l:List aI) (g p2 k:Int) (h:0≤g∧g < p2∧p2 < k∧k≤((l.length:Nat):Int)):lK l g p2 k=mW l g p2 k:=by
  obtain⟨a,rfl⟩:=K3 h.1
  obtain⟨m,rfl⟩:=K3 (Int.le_trans h.1 (Int.le_of_lt h.2.1))
  obtain⟨b,rfl⟩:=K3 (Int.le_trans h.1 (Int.le_of_lt (Int.lt_trans h.2.1 h.2.2.1)))
  have D:a < m:=by omega
  have v:m < b:=by omega
  have E:b≤l.length:=by omega
  unfold mW
  rw [K2,K2,K2,show D0 ((b:Int) - (a:Int))=b - a by omega,show b - a=(b - a - 1)+1 by omega,pJ]
  unfold lK
  simp only [ww]
  by_cases c1:m - a=1
  · rw [if_pos e6,if_pos c1]
    rw [FJ l a (b:Int) _ m b e6,show D0 ((b:Int) - (m:Int))=b - m by omega]
    have hb:=wW (fun h=>ng (at_ l h) (at_ l a)) (b - m+1) m b e6
    generalize bs (fun h=>ng (at_ l h) (at_ l a)) (b - m+1) m b=i at hb
    obtain⟨P,X,Y,Q,rfl,n,w,y⟩:=FH l (a:=a) (m:=m) (b:=i) e6 e6 e6
    rw [AO P X Y Q n.symm e6 e6]
    obtain⟨x,rfl⟩:∃ x,X= [x]:=L3.1 e6
    exact GQ (i:Int) Y P Q x _ (a:Int) e6 e6 e6
  · rw [if_neg e6,if_neg c1]
    by_cases c2:b - m=1
    · rw [if_pos e6,if_pos c2]
      rw [FK l m (a:Int) _ a m e6,show D0 ((m:Int) - (a:Int))=m - a by omega]
      have hb:=wW (fun h=> !ng (at_ l m) (at_ l h)) (m - a+1) a m e6
      generalize bs (fun h=> !ng (at_ l m) (at_ l h)) (m - a+1) a m=i at hb
      obtain⟨P,X,Y,Q,rfl,n,w,y⟩:=FH l (a:=i) (m:=m) (b:=b) e6 e6 e6
      rw [AO P X Y Q n.symm e6 e6]
      obtain⟨x,rfl⟩:∃ x,Y= [x]:=L3.1 e6
      exact GR (i:Int) X.length X P Q x _ (m:Int) rfl e6 e6 e6
    · rw [if_neg e6,if_neg c2]
      rw [show D0 ((a:Int)+(b:Int))=a+b by omega]
      have hd:(a+b) / 2 < b∧a < (a+b) / 2:=by omega
      generalize hmid:(a+b) / 2=mid at hd
      have hL:∀ q i j:Nat,j - i < q→j≤mid→fC l (a:Int) (m:Int) (b:Int) q (i:Int) (j:Int)=((bs (fun c=> !ng (at_ l (mid+m - 1 - c)) (at_ l c)) q i j:Nat):Int):=fun q i j hq hj=>by
        have:=FL l a m b v q i j hq e6
        rw [hmid] at this; exact this
      have hs:∃ s:Nat,a≤s∧mid+m - b≤s∧s≤mid∧s≤m∧(if m > mid then bs (fun c=> !ng (at_ l (mid+m - 1 - c)) (at_ l c)) (mid - (mid+m - b)+1) (mid+m - b) mid else bs (fun c=> !ng (at_ l (mid+m - 1 - c)) (at_ l c)) (m - a+1) a m)=s∧
          fC l (a:Int) (m:Int) (b:Int) ((D0 ((if(m:Int) > ((mid:Nat):Int) then((((mid:Nat):Int)+(m:Int)) - (b:Int),((mid:Nat):Int)) else((a:Int),(m:Int))).2 - (if(m:Int) > ((mid:Nat):Int) then((((mid:Nat):Int)+(m:Int)) - (b:Int),((mid:Nat):Int)) else((a:Int),(m:Int))).1))+1) (if(m:Int) > ((mid:Nat):Int) then((((mid:Nat):Int)+(m:Int)) - (b:Int),((mid:Nat):Int)) else((a:Int),(m:Int))).1 (if(m:Int) > ((mid:Nat):Int) then((((mid:Nat):Int)+(m:Int)) - (b:Int),((mid:Nat):Int)) else((a:Int),(m:Int))).2=(s:Int):=by
        by_cases c:m > mid
        · have hb:=wW (fun c=> !ng (at_ l (mid+m - 1 - c)) (at_ l c)) (mid - (mid+m - b)+1) (mid+m - b) mid e6
          refine⟨bs (fun c=> !ng (at_ l (mid+m - 1 - c)) (at_ l c)) (mid - (mid+m - b)+1) (mid+m - b) mid,e6,hb.1,hb.2,e6,by rw [if_pos c], ?_⟩
          rw [if_pos e6]
          dsimp only
          rw [show (((mid:Nat):Int)+(m:Int)) - (b:Int)=((mid+m - b:Nat):Int) by omega,show D0 (((mid:Nat):Int) - ((mid+m - b:Nat):Int))=mid - (mid+m - b) by omega]
          exact hL _ _ _ e6 (Nat.le_refl _)
        · have hb:=wW (fun c=> !ng (at_ l (mid+m - 1 - c)) (at_ l c)) (m - a+1) a m e6
          refine⟨bs (fun c=> !ng (at_ l (mid+m - 1 - c)) (at_ l c)) (m - a+1) a m,hb.1,e6,e6,hb.2,by rw [if_neg c], ?_⟩
          rw [if_neg e6]
          dsimp only
          rw [show D0 ((m:Int) - (a:Int))=m - a by omega]
          exact hL _ _ _ e6 e6
      obtain⟨s,F,G,H,I,z,A⟩:=hs
      rw [z,A]
      have hr:∀ l1:List aI,a < s→s < mid→mW l1 (a:Int) (s:Int) ((mid:Nat):Int)=pJ (b - a - 1) l1 a s mid:=fun l1 o p=>by
        unfold mW
        rw [K2,K2,K2,show D0 (((mid:Nat):Int) - (a:Int))=mid - a by omega,xJ l1 a s mid o p (b - a - 1) e6]
      have he:(((mid:Nat):Int)+(m:Int)) - (s:Int)=((mid+m - s:Nat):Int):=by omega
      have f:∀ l1:List aI,mid < mid+m - s→mid+m - s < b→mW l1 ((mid:Nat):Int) ((mid+m - s:Nat):Int) (b:Int)=pJ (b - a - 1) l1 mid (mid+m - s) b:=fun l1 o p=>by
        unfold mW
        rw [K2,K2,K2,show D0 ((b:Int) - ((mid:Nat):Int))=b - mid by omega,xJ l1 mid _ b o p (b - a - 1) e6]
      rw [he]
      by_cases r:s < m
      · have B:(if(m:Int) < ((mid+m - s:Nat):Int) then iL l (s:Int) (m:Int) ((mid+m - s:Nat):Int) else l)=if s < m∧m < mid+m - s then uF l s m (mid+m - s) else l:=by
          by_cases t:m < mid+m - s
          · rw [if_pos e6,if_pos ⟨r,t⟩,Di l r t e6]
          · rw [if_neg e6,if_neg (fun q=>t q.2)]
        rw [if_pos e6,B]
        generalize (if s < m∧m < mid+m - s then uF l s m (mid+m - s) else l)=l1
        by_cases u:a < s
        · have C:(if(s:Int) < ((mid:Nat):Int) then mW l1 (a:Int) (s:Int) ((mid:Nat):Int) else l1)=if a < s∧s < mid then pJ (b - a - 1) l1 a s mid else l1:=by
            by_cases d:s < mid
            · rw [if_pos e6,if_pos ⟨u,d⟩,hr l1 u d]
            · rw [if_neg e6,if_neg (fun q=>d q.2)]
          rw [if_pos e6,C]
          by_cases e:mid+m - s < b
          · rw [if_pos (show ((mid+m - s:Nat):Int) < (b:Int) by omega),if_pos (show mid < mid+m - s∧mid+m - s < b from ⟨e6,e⟩),f _ e6 e]
          · rw [if_neg (show ¬ ((mid+m - s:Nat):Int) < (b:Int) by omega),if_neg (show ¬ (mid < mid+m - s∧mid+m - s < b) from fun q=>e q.2)]
        · rw [if_neg (show ¬ (a:Int) < (s:Int) by omega),if_neg (show ¬ (a < s∧s < mid) from fun q=>u q.1)]
          by_cases e:mid+m - s < b
          · rw [if_pos (show ((mid+m - s:Nat):Int) < (b:Int) by omega),if_pos (show mid < mid+m - s∧mid+m - s < b from ⟨e6,e⟩),f _ e6 e]
          · rw [if_neg (show ¬ ((mid+m - s:Nat):Int) < (b:Int) by omega),if_neg (show ¬ (mid < mid+m - s∧mid+m - s < b) from fun q=>e q.2)]
      · rw [if_neg (show ¬ (s:Int) < (m:Int) by omega),if_neg (show ¬ (s < m∧m < mid+m - s) from fun q=>r q.1),if_neg (show ¬ (mid < mid+m - s∧mid+m - s < b) from fun q=>absurd q.1 e6)]
        by_cases d:s < mid
        · rw [if_pos e6,if_pos ⟨e6,d⟩,hr l e6 d]
        · rw [if_neg e6,if_neg (fun q=>d q.2)]
theorem FM (n):∀ (w:World) (D:Nat→Prop) (g:Option Addr) (f h:Nat) (l0:List aI) (b:Int) (p2:Int) (c:Int) (i:List aI) (H:Own w D w [row g f h (q3 aI.cells l0) 153 2]) (d:f=l0.length) (e:l0.length *32≤211106232532992) (a:0≤b∧b < p2∧p2 < c∧c≤((l0.length:Nat):Int)) (hh_:D0 (c - b) < n) (hr:mW l0 b p2 c=i),
    Calls Tryz.prog 202 #[.slice g f h, .int .i64 b, .int .i64 p2, .int .i64 c, .func (.func 166) #[] #[]] w (d9 fun v w'=>v= .tuple #[]∧Own w D w' [row g f h (q3 aI.cells i) 153 2]∧(i.length=l0.length)):=by
  induction n with
  | zero=>intro w D g f h l0 b p2 c i H d e a hh_; omega
  | succ n ih=>
    intro w D g f h l0 b p2 c i H d e a hh_ hr
    exact qm w D g f h l0 b p2 c i H d e a ((D7 l0 b p2 c a).trans hr) _ rfl
      (fun w D g f h l0 b p2 c i H d e a hs hr=>ih w D g f h l0 b p2 c i H d e a e6 hr)
theorem BS (w D d a e l0 b p2 c f) (H:Own w D w [row d a e (q3 aI.cells l0) 153 2]) (g:a=l0.length) (h:l0.length *32≤211106232532992) (i:0≤b∧b < p2∧p2 < c∧c≤((l0.length:Nat):Int)) (hr:mW l0 b p2 c=f):
    Calls Tryz.prog 202 #[.slice d a e, .int .i64 b, .int .i64 p2, .int .i64 c, .func (.func 166) #[] #[]] w (d9 fun v w'=>v= .tuple #[]∧Own w D w' [row d a e (q3 aI.cells f) 153 2]∧(f.length=l0.length)):=
  FM _ w D d a e l0 b p2 c f H g h i (Nat.lt_succ_self _) hr
end Go.Proofs.YtbkagebjhbphaaaGreat
