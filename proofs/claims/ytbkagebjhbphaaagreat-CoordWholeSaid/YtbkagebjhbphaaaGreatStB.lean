/-
  The library's merge in place, told, is that function; it is called. Conditions: none beyond each law's own.
-/
import Derived.Test.YtbkagebjhbphaaaGreatSb
namespace Go.Proofs.YtbkagebjhbphaaaGreat
open Int renaming eq_ofNat_of_zero_le→L5,toNat→C6,toNat_natCast→L4
open List renaming append_assoc→q5,drop→r4,drop_left→L3,flatMap→q4,getD→B8,length_append→o2,length_cons→s1,length_drop→o1,length_eq_one_iff→L6,length_take→o0,take→r3,take_append_drop→s7,take_left→t5
set_option linter.unusedVariables false
set_option linter.unusedSimpArgs false
theorem vQ {α β:Type} (x:α) (f:α→β):bnd x f=f x:=rfl
theorem BD (a q:List aH) (p:aH):B8 (a++p::q) a.length default=p:=by simp
theorem BF (a q:List aH) (p y:aH):List.set (a++p::q) a.length y=a++y::q:=by simp
theorem Al (P X Y Q:List aH) {a m b:Nat} (ha:a=P.length) (hm:m=a+X.length) (hb:b=m+Y.length):yY (P++(X++(Y++Q))) a m b=P++(Y++(X++Q)):=by
  subst hb; subst hm; subst ha
  have c:r3 P.length (P++(X++(Y++Q)))=P:=t5
  have d:r3 (P.length+X.length) (P++(X++(Y++Q)))=P++X:=by
    rw [← q5, ← o2]; exact t5
  have e:r3 (P.length+X.length+Y.length) (P++(X++(Y++Q)))=P++(X++Y):=by
    have:P++(X++(Y++Q))=(P++(X++Y))++Q:=by simp
    rw [this,show P.length+X.length+Y.length=(P++(X++Y)).length by simp; omega]; exact t5
  have f:r4 (P.length+X.length+Y.length) (P++(X++(Y++Q)))=Q:=by
    have:P++(X++(Y++Q))=(P++(X++Y))++Q:=by simp
    rw [this,show P.length+X.length+Y.length=(P++(X++Y)).length by simp; omega]; exact L3
  have g:r4 (P.length+X.length) (P++(X++Y))=Y:=by
    rw [← q5, ← o2]; exact L3
  have h:r4 P.length (P++X)=X:=L3
  unfold yY
  rw [c,e,g,d,h,f]
theorem FO (l:List aH) {a m b:Nat} (e:a≤m) (f:m≤b) (g:b≤l.length):∃ P X Y Q,l=P++(X++(Y++Q))∧P.length=a∧X.length=m - a∧Y.length=b - m:=by
  refine⟨r3 a l,r3 (m - a) (r4 a l),r3 (b - m) (r4 m l),r4 b l, ?_, ?_, ?_, ?_⟩
  · have c:r3 (b - m) (r4 m l)++r4 b l=r4 m l:=by
      have:=s7 (b - m) (r4 m l)
      rw [List.drop_drop,show m+(b - m)=b by omega] at this
      exact this
    have d:r3 (m - a) (r4 a l)++r4 m l=r4 a l:=by
      have:=s7 (m - a) (r4 a l)
      rw [List.drop_drop,show a+(m - a)=m by omega] at this
      exact this
    rw [c,d,s7]
  · rw [o0]; omega
  · rw [o0,o1]; omega
  · rw [o0,o1]; omega
theorem EJ (b c d:Int):∀ (X Z P Y Q:List aH) (k q:Nat),X.length=Z.length→X.length < q→b+(k:Int)=(P.length:Int)→c+(k:Int)=((P.length+X.length+Y.length:Nat):Int)→d=((k+X.length:Nat):Int)→
    fG b c d q k (P++(X++(Y++(Z++Q))))=P++(Z++(Y++(X++Q)))
  | _,_,_,_,_,_,0,_,h,_,_,_=>by omega
  | [], [],P,Y,Q,k,q+1,_,_,_,_,a=>by
    rw [fG,if_neg (by rw [a]; simp)]
  | [],z::Z,_,_,_,_,q+1,h,_,_,_,_=>by simp at h
  | x::X, [],_,_,_,_,q+1,h,_,_,_,_=>by simp at h
  | x::X,z::Z,P,Y,Q,k,q+1,g,i,j,f,a=>by
    simp only [s1] at g i f a
    rw [fG,if_pos (by rw [a]; omega)]
    simp only [vQ]
    rw [j,f,L4,L4]
    have l:P++(x::X++(Y++(z::Z++Q)))=(P++(x::X++Y))++z::(Z++Q):=by simp
    have m:(P++(x::X++Y)).length=P.length+(X.length+1)+Y.length:=by simp; omega
    have n:B8 (P++(x::X++(Y++(z::Z++Q)))) (P.length+(X.length+1)+Y.length) default=z:=by rw [l, ← m]; exact BD _ _ _
    have o:B8 (P++(x::X++(Y++(z::Z++Q)))) P.length default=x:=BD P (X++(Y++(z::Z++Q))) x
    have p:List.set (P++(x::X++(Y++(z::Z++Q)))) P.length z=(P++(z::X++Y))++z::(Z++Q):=by
      rw [show P++(x::X++(Y++(z::Z++Q)))=P++x::(X++(Y++(z::Z++Q))) from rfl,BF]; simp
    have r:(P++(z::X++Y)).length=P.length+(X.length+1)+Y.length:=by simp; omega
    rw [n,o,show (aH.mk z.aZ z.aG)=z from rfl,show (aH.mk x.aZ x.aG)=x from rfl,p, ← r,BF]
    have e:(P++(z::X++Y))++x::(Z++Q)=(P++ [z])++(X++((Y++ [x])++(Z++Q))):=by simp
    rw [e,EJ b c d X Z (P++ [z]) (Y++ [x]) Q (k+1) q e6 e6 l3 l3 e6]
    simp
theorem yE (P X Y Z Q:List aH) (h:X.length=Z.length) {a b c:Int} (d:a=(P.length:Int)) (e:b=((P.length+X.length+Y.length:Nat):Int)) (f:c=(X.length:Int)):eT (P++(X++(Y++(Z++Q)))) a b c=P++(Z++(Y++(X++Q))):=by
  unfold eT
  rw [vQ]
  exact EJ a b c X Z P Y Q 0 _ h e6 e6 e6 e6
theorem Ed (m:Nat):∀ (q:Nat) (P X Y Q:List aH),X.length+Y.length < q→1≤X.length→1≤Y.length→P.length+X.length=m→
    eT (cO (m:Int) q (X.length:Int) (Y.length:Int) (P++(X++(Y++Q)))).2 ((m:Int) - (cO (m:Int) q (X.length:Int) (Y.length:Int) (P++(X++(Y++Q)))).1) (m:Int) (cO (m:Int) q (X.length:Int) (Y.length:Int) (P++(X++(Y++Q)))).1=P++(Y++(X++Q))
  | 0,_,_,_,_,h,_,_,_=>by omega
  | q+1,P,X,Y,Q,h,hx,hy,hm=>by
    by_cases g:X.length=Y.length
    · have e:cO (m:Int) (q+1) (X.length:Int) (Y.length:Int) (P++(X++(Y++Q)))=((X.length:Int),P++(X++(Y++Q))):=by
        rw [cO,if_pos e6]
      rw [e]
      exact yE P X [] Y Q g e6 l3 rfl
    · by_cases i:X.length > Y.length
      · obtain⟨a,b,rfl,f⟩:∃ a b,X=a++b∧a.length=Y.length:=⟨r3 Y.length X,r4 Y.length X,(s7 _ _).symm,by rw [o0]; omega⟩
        rw [o2] at h hx hm g i
        have e:cO (m:Int) (q+1) ((a++b).length:Int) (Y.length:Int) (P++((a++b)++(Y++Q)))=cO (m:Int) q (b.length:Int) (a.length:Int) ((P++Y)++(b++(a++Q))):=by
          rw [cO,if_neg i6,if_pos i6,vQ]
          rw [show P++((a++b)++(Y++Q))=P++(a++(b++(Y++Q))) by simp,yE P a b Y Q f i6 e6 e6]
          rw [show (((a++b).length:Nat):Int) - (Y.length:Int)=(b.length:Int) by rw [o2]; omega,f]
          simp
        rw [e,Ed m q (P++Y) b a Q e6 e6 e6 i6]
        simp
      · obtain⟨c,d,rfl,f⟩:∃ c d,Y=c++d∧d.length=X.length:=⟨r3 (Y.length - X.length) Y,r4 (Y.length - X.length) Y,(s7 _ _).symm,by rw [o1]; omega⟩
        rw [o2] at h hy g i
        have e:cO (m:Int) (q+1) (X.length:Int) ((c++d).length:Int) (P++(X++((c++d)++Q)))=cO (m:Int) q (d.length:Int) (c.length:Int) (P++(d++(c++(X++Q)))):=by
          rw [cO,if_neg i6,if_neg i6,vQ]
          rw [show P++(X++((c++d)++Q))=P++(X++(c++(d++Q))) by simp,yE P X c d Q f.symm e6 i6 rfl]
          rw [show (((c++d).length:Nat):Int) - (X.length:Int)=(c.length:Int) by rw [o2]; omega,f]
        rw [e,Ed m q P d c (X++Q) e6 e6 e6 e6]
        simp
theorem Di (l:List aH) {a m b:Nat} (c:a < m) (d:m < b) (e:b≤l.length):ib l (a:Int) (m:Int) (b:Int)=yY l a m b:=by
  obtain⟨P,X,Y,Q,rfl,f,g,h⟩:=FO l (Nat.le_of_lt c) (Nat.le_of_lt d) e
  rw [Al P X Y Q f.symm e6 e6]
  unfold ib
  simp only [vQ]
  have:=Ed m ((C6 (((m:Int) - (a:Int))+((b:Int) - (m:Int))))+1) P X Y Q e6 e6 e6 e6
  rw [show (X.length:Int)=(m:Int) - (a:Int) by omega,show (Y.length:Int)=(b:Int) - (m:Int) by omega] at this
  exact this
theorem He (i:Int):∀ (Y P Q:List aH) (x:aH) (q:Nat) (k:Int),Y.length < q→k=(P.length:Int)→i=((P.length+Y.length+1:Nat):Int)→fJ i q k (P++x::(Y++Q))=P++(Y++x::Q)
  | _,_,_,_,0,_,h,_,_=>by omega
  | [],P,Q,x,q+1,k,_,hk,hi=>by
    rw [fJ,if_neg (by rw [hk,hi]; simp)]; rfl
  | y::Y,P,Q,x,q+1,k,h,hk,hi=>by
    simp only [s1] at h hi
    rw [fJ,if_pos e6]
    simp only [vQ]
    rw [show C6 (k+1)=(P++ [x]).length by simp; omega,show C6 k=P.length by omega]
    have a:P++x::(y::Y++Q)=(P++ [x])++y::(Y++Q):=by simp
    rw [show B8 (P++x::(y::Y++Q)) (P++ [x]).length default=y by rw [a]; exact BD _ _ _,BD,show (aH.mk y.aZ y.aG)=y from rfl,show (aH.mk x.aZ x.aG)=x from rfl,BF]
    rw [show P++y::(y::Y++Q)=(P++ [y])++y::(Y++Q) by simp,show (P++ [x]).length=(P++ [y]).length by simp,BF]
    rw [He i Y (P++ [y]) Q x q (k+1) e6 l3 l3]
    simp
theorem Hf (i:Int):∀ (n:Nat) (X P Q:List aH) (x:aH) (q:Nat) (k:Int),X.length=n→X.length < q→i=(P.length:Int)→k=((P.length+X.length:Nat):Int)→fM i q k (P++(X++x::Q))=P++x::(X++Q)
  | _,_,_,_,_,0,_,_,h,_,_=>by omega
  | 0,X,P,Q,x,q+1,k,hn,_,hi,hk=>by
    have e:X= []:=List.eq_nil_of_length_eq_zero hn
    subst e
    rw [fM,if_neg (by rw [hk,hi]; simp)]; rfl
  | n+1,X,P,Q,x,q+1,k,hn,h,hi,hk=>by
    obtain⟨X',y,rfl⟩:∃ X' y,X=X'++ [y]:=⟨X.dropLast,X.getLast (fun e=>by rw [e] at hn; cases hn),(List.dropLast_concat_getLast _).symm⟩
    rw [o2,List.length_singleton] at hn h hk
    rw [fM,if_pos e6]
    simp only [vQ]
    rw [show C6 (k - 1)=(P++X').length by simp; omega,show C6 k=((P++X')++ [y]).length by simp; omega]
    have b:P++((X'++ [y])++x::Q)=(P++X')++y::(x::Q):=by simp
    have a:P++((X'++ [y])++x::Q)=((P++X')++ [y])++x::Q:=by simp
    rw [show B8 (P++((X'++ [y])++x::Q)) (P++X').length default=y by rw [b]; exact BD _ _ _,show B8 (P++((X'++ [y])++x::Q)) ((P++X')++ [y]).length default=x by rw [a]; exact BD _ _ _]
    rw [show (aH.mk y.aZ y.aG)=y from rfl,show (aH.mk x.aZ x.aG)=x from rfl,a,BF]
    rw [show ((P++X')++ [y])++y::Q=(P++X')++y::(y::Q) by simp,BF]
    rw [show (P++X')++x::(y::Q)=P++(X'++x::(y::Q)) by simp,Hf i n X' P (y::Q) x q (k - 1) e6 e6 hi e6]
    simp
theorem uU {x y:aH}:iW x y < 0↔mM x y=true:=by unfold mM; rw [decide_eq_true_eq]
theorem wF (P:Nat→Bool):∀ (f i j:Nat),i≤j→i≤bs P f i j∧bs P f i j≤j
  | 0,i,j,h=>⟨Nat.le_refl _,h⟩
  | f+1,i,j,h=>by
    unfold bs
    by_cases c:i < j
    · rw [if_pos c]
      split
      · have:=wF P f ((i+j) / 2+1) j e6; omega
      · have:=wF P f i ((i+j) / 2) e6; omega
    · rw [if_neg c]; omega
theorem FP (l:List aH) (i:Nat):B8 l i default=at_ l i:=rfl
theorem FQ (l:List aH) (a:Nat) (b:Int):∀ (q i j:Nat),j - i < q→fI l (a:Int) b q (i:Int) (j:Int)=((bs (fun h=>mM (at_ l h) (at_ l a)) q i j:Nat):Int)
  | 0,_,_,h=>by omega
  | q+1,i,j,h=>by
    rw [fI,bs]
    simp only [vQ,FP]
    rw [show C6 ((i:Int)+(j:Int))=i+j by omega,L4]
    by_cases c:i < j
    · rw [if_pos e6,if_pos c]
      by_cases t:mM (at_ l ((i+j) / 2)) (at_ l a)=true
      · rw [if_pos (uU.2 t),if_pos t,FQ l a b q _ j e6]
      · rw [if_neg (fun e=>t (uU.1 e)),if_neg t,FQ l a b q i _ e6]
    · rw [if_neg e6,if_neg c]
theorem FR (l:List aH) (m:Nat) (a:Int):∀ (q i j:Nat),j - i < q→fK l a (m:Int) q (i:Int) (j:Int)=((bs (fun h=> !mM (at_ l m) (at_ l h)) q i j:Nat):Int)
  | 0,_,_,h=>by omega
  | q+1,i,j,h=>by
    rw [fK,bs]
    simp only [vQ,FP]
    rw [show C6 ((i:Int)+(j:Int))=i+j by omega,L4]
    by_cases c:i < j
    · rw [if_pos e6,if_pos c]
      by_cases t:mM (at_ l m) (at_ l ((i+j) / 2))=true
      · rw [if_pos (uU.2 t),if_neg (by rw [t]; decide),FR l m a q i _ e6]
      · rw [if_neg (fun e=>t (uU.1 e)),if_pos (by rw [Bool.eq_false_iff.2 t]; rfl),FR l m a q _ j e6]
    · rw [if_neg e6,if_neg c]
theorem FT (l:List aH) (a m b:Nat) (hb:m < b):∀ (q i j:Nat),j - i < q→j≤(a+b) / 2→eD l (a:Int) (m:Int) (b:Int) q (i:Int) (j:Int)=((bs (fun c=> !mM (at_ l ((a+b) / 2+m - 1 - c)) (at_ l c)) q i j:Nat):Int)
  | 0,_,_,h,_=>by omega
  | q+1,i,j,h,hj=>by
    rw [eD,bs]
    simp only [vQ,FP]
    rw [show C6 ((i:Int)+(j:Int))=i+j by omega,show C6 ((a:Int)+(b:Int))=a+b by omega]
    by_cases c:i < j
    · rw [if_pos e6,if_pos c]
      rw [show C6 ((((((a+b) / 2:Nat):Int)+(m:Int)) - 1) - (((i+j) / 2:Nat):Int))=(a+b) / 2+m - 1 - (i+j) / 2 by omega]
      by_cases t:mM (at_ l ((a+b) / 2+m - 1 - (i+j) / 2)) (at_ l ((i+j) / 2))=true
      · rw [if_pos (uU.2 t),if_neg (by rw [t]; decide),FT l a m b hb q i _ e6 e6]
      · rw [if_neg (fun e=>t (uU.1 e)),if_pos (by rw [Bool.eq_false_iff.2 t]; rfl),FT l a m b hb q _ j e6 hj]
    · rw [if_neg e6,if_neg c]
theorem xn:∀ (f:Nat) (l:List aH) (a m b:Nat),a < m→m < b→b - a≤f→qo (f+1) l a m b=qo f l a m b
  | 0,_,_,_,_,_,_,_=>by omega
  | f+1,l,a,m,b,h,i,j=>by
    rw [qo]
    conv=>rhs; rw [qo]
    by_cases d:m - a=1
    · rw [if_pos d,if_pos d]
    · rw [if_neg d,if_neg d]
      by_cases e:b - m=1
      · rw [if_pos e,if_pos e]
      · rw [if_neg e,if_neg e]
        dsimp only
        generalize (if m > (a+b) / 2 then bs (fun c=> !mM (at_ l ((a+b) / 2+m - 1 - c)) (at_ l c)) ((a+b) / 2 - ((a+b) / 2+m - b)+1) ((a+b) / 2+m - b) ((a+b) / 2) else bs (fun c=> !mM (at_ l ((a+b) / 2+m - 1 - c)) (at_ l c)) (m - a+1) a m)=s
        have g:∀ l1,(if a < s∧s < (a+b) / 2 then qo (f+1) l1 a s ((a+b) / 2) else l1)=if a < s∧s < (a+b) / 2 then qo f l1 a s ((a+b) / 2) else l1:=fun l1=>by
          by_cases c:a < s∧s < (a+b) / 2
          · rw [if_pos c,if_pos c,xn f l1 a s _ c.1 c.2 e6]
          · rw [if_neg c,if_neg c]
        rw [g]
        split
        · next c=>rw [xn f _ _ _ b c.1 c.2 e6]
        · rfl
theorem xq (l:List aH) (a m b:Nat) (d:a < m) (e:m < b):∀ f,b - a≤f→qo f l a m b=qo (b - a) l a m b
  | 0,h=>by rw [show b - a=0 by omega]
  | f+1,h=>by
    by_cases c:b - a=f+1
    · rw [c]
    · rw [xn f l a m b d e e6,xq l a m b d e f e6]
theorem Ee (l:List aH) (g k n:Int) (h:0≤g∧g < k∧k < n∧n≤((l.length:Nat):Int)):lg l g k n=mH l g k n:=by
  obtain⟨a,rfl⟩:=L5 h.1
  obtain⟨m,rfl⟩:=L5 (Int.le_trans h.1 (Int.le_of_lt h.2.1))
  obtain⟨b,rfl⟩:=L5 (Int.le_trans h.1 (Int.le_of_lt (Int.lt_trans h.2.1 h.2.2.1)))
  have G:a < m:=by omega
  have z:m < b:=by omega
  have H:b≤l.length:=by omega
  unfold mH
  rw [L4,L4,L4,show C6 ((b:Int) - (a:Int))=b - a by omega,show b - a=(b - a - 1)+1 by omega,qo]
  unfold lg
  simp only [vQ]
  by_cases w:m - a=1
  · rw [if_pos e6,if_pos w]
    rw [FQ l a (b:Int) _ m b e6,show C6 ((b:Int) - (m:Int))=b - m by omega]
    have hb:=wF (fun h=>mM (at_ l h) (at_ l a)) (b - m+1) m b e6
    generalize bs (fun h=>mM (at_ l h) (at_ l a)) (b - m+1) m b=i at hb
    obtain⟨P,X,Y,Q,rfl,o,A,B⟩:=FO l (a:=a) (m:=m) (b:=i) e6 e6 e6
    rw [Al P X Y Q o.symm e6 e6]
    obtain⟨x,rfl⟩:∃ x,X= [x]:=L6.1 e6
    exact He (i:Int) Y P Q x _ (a:Int) e6 e6 e6
  · rw [if_neg e6,if_neg w]
    by_cases y:b - m=1
    · rw [if_pos e6,if_pos y]
      rw [FR l m (a:Int) _ a m e6,show C6 ((m:Int) - (a:Int))=m - a by omega]
      have hb:=wF (fun h=> !mM (at_ l m) (at_ l h)) (m - a+1) a m e6
      generalize bs (fun h=> !mM (at_ l m) (at_ l h)) (m - a+1) a m=i at hb
      obtain⟨P,X,Y,Q,rfl,o,A,B⟩:=FO l (a:=i) (m:=m) (b:=b) e6 e6 e6
      rw [Al P X Y Q o.symm e6 e6]
      obtain⟨x,rfl⟩:∃ x,Y= [x]:=L6.1 e6
      exact Hf (i:Int) X.length X P Q x _ (m:Int) rfl e6 e6 e6
    · rw [if_neg e6,if_neg y]
      rw [show C6 ((a:Int)+(b:Int))=a+b by omega]
      have hd:(a+b) / 2 < b∧a < (a+b) / 2:=by omega
      generalize hmid:(a+b) / 2=mid at hd
      have hL:∀ q i j:Nat,j - i < q→j≤mid→eD l (a:Int) (m:Int) (b:Int) q (i:Int) (j:Int)=((bs (fun c=> !mM (at_ l (mid+m - 1 - c)) (at_ l c)) q i j:Nat):Int):=fun q i j hq hj=>by
        have:=FT l a m b z q i j hq e6
        rw [hmid] at this; exact this
      have hs:∃ s:Nat,a≤s∧mid+m - b≤s∧s≤mid∧s≤m∧(if m > mid then bs (fun c=> !mM (at_ l (mid+m - 1 - c)) (at_ l c)) (mid - (mid+m - b)+1) (mid+m - b) mid else bs (fun c=> !mM (at_ l (mid+m - 1 - c)) (at_ l c)) (m - a+1) a m)=s∧
          eD l (a:Int) (m:Int) (b:Int) ((C6 ((if(m:Int) > ((mid:Nat):Int) then((((mid:Nat):Int)+(m:Int)) - (b:Int),((mid:Nat):Int)) else((a:Int),(m:Int))).2 - (if(m:Int) > ((mid:Nat):Int) then((((mid:Nat):Int)+(m:Int)) - (b:Int),((mid:Nat):Int)) else((a:Int),(m:Int))).1))+1) (if(m:Int) > ((mid:Nat):Int) then((((mid:Nat):Int)+(m:Int)) - (b:Int),((mid:Nat):Int)) else((a:Int),(m:Int))).1 (if(m:Int) > ((mid:Nat):Int) then((((mid:Nat):Int)+(m:Int)) - (b:Int),((mid:Nat):Int)) else((a:Int),(m:Int))).2=(s:Int):=by
        by_cases c:m > mid
        · have hb:=wF (fun c=> !mM (at_ l (mid+m - 1 - c)) (at_ l c)) (mid - (mid+m - b)+1) (mid+m - b) mid e6
          refine⟨bs (fun c=> !mM (at_ l (mid+m - 1 - c)) (at_ l c)) (mid - (mid+m - b)+1) (mid+m - b) mid,e6,hb.1,hb.2,e6,by rw [if_pos c], ?_⟩
          rw [if_pos e6]
          dsimp only
          rw [show (((mid:Nat):Int)+(m:Int)) - (b:Int)=((mid+m - b:Nat):Int) by omega,show C6 (((mid:Nat):Int) - ((mid+m - b:Nat):Int))=mid - (mid+m - b) by omega]
          exact hL _ _ _ e6 (Nat.le_refl _)
        · have hb:=wF (fun c=> !mM (at_ l (mid+m - 1 - c)) (at_ l c)) (m - a+1) a m e6
          refine⟨bs (fun c=> !mM (at_ l (mid+m - 1 - c)) (at_ l c)) (m - a+1) a m,hb.1,e6,e6,hb.2,by rw [if_neg c], ?_⟩
          rw [if_neg e6]
          dsimp only
          rw [show C6 ((m:Int) - (a:Int))=m - a by omega]
          exact hL _ _ _ e6 e6
      obtain⟨s,I,J,K,L,C,D⟩:=hs
      rw [C,D]
      have hr:∀ l1:List aH,a < s→s < mid→mH l1 (a:Int) (s:Int) ((mid:Nat):Int)=qo (b - a - 1) l1 a s mid:=fun l1 p r=>by
        unfold mH
        rw [L4,L4,L4,show C6 (((mid:Nat):Int) - (a:Int))=mid - a by omega,xq l1 a s mid p r (b - a - 1) e6]
      have he:(((mid:Nat):Int)+(m:Int)) - (s:Int)=((mid+m - s:Nat):Int):=by omega
      have f:∀ l1:List aH,mid < mid+m - s→mid+m - s < b→mH l1 ((mid:Nat):Int) ((mid+m - s:Nat):Int) (b:Int)=qo (b - a - 1) l1 mid (mid+m - s) b:=fun l1 p r=>by
        unfold mH
        rw [L4,L4,L4,show C6 ((b:Int) - ((mid:Nat):Int))=b - mid by omega,xq l1 mid _ b p r (b - a - 1) e6]
      rw [he]
      by_cases t:s < m
      · have E:(if(m:Int) < ((mid+m - s:Nat):Int) then ib l (s:Int) (m:Int) ((mid+m - s:Nat):Int) else l)=if s < m∧m < mid+m - s then yY l s m (mid+m - s) else l:=by
          by_cases u:m < mid+m - s
          · rw [if_pos e6,if_pos ⟨t,u⟩,Di l t u e6]
          · rw [if_neg e6,if_neg (fun q=>u q.2)]
        rw [if_pos e6,E]
        generalize (if s < m∧m < mid+m - s then yY l s m (mid+m - s) else l)=l1
        by_cases v:a < s
        · have F:(if(s:Int) < ((mid:Nat):Int) then mH l1 (a:Int) (s:Int) ((mid:Nat):Int) else l1)=if a < s∧s < mid then qo (b - a - 1) l1 a s mid else l1:=by
            by_cases d:s < mid
            · rw [if_pos e6,if_pos ⟨v,d⟩,hr l1 v d]
            · rw [if_neg e6,if_neg (fun q=>d q.2)]
          rw [if_pos e6,F]
          by_cases e:mid+m - s < b
          · rw [if_pos (show ((mid+m - s:Nat):Int) < (b:Int) by omega),if_pos (show mid < mid+m - s∧mid+m - s < b from ⟨e6,e⟩),f _ e6 e]
          · rw [if_neg (show ¬ ((mid+m - s:Nat):Int) < (b:Int) by omega),if_neg (show ¬ (mid < mid+m - s∧mid+m - s < b) from fun q=>e q.2)]
        · rw [if_neg (show ¬ (a:Int) < (s:Int) by omega),if_neg (show ¬ (a < s∧s < mid) from fun q=>v q.1)]
          by_cases e:mid+m - s < b
          · rw [if_pos (show ((mid+m - s:Nat):Int) < (b:Int) by omega),if_pos (show mid < mid+m - s∧mid+m - s < b from ⟨e6,e⟩),f _ e6 e]
          · rw [if_neg (show ¬ ((mid+m - s:Nat):Int) < (b:Int) by omega),if_neg (show ¬ (mid < mid+m - s∧mid+m - s < b) from fun q=>e q.2)]
      · rw [if_neg (show ¬ (s:Int) < (m:Int) by omega),if_neg (show ¬ (s < m∧m < mid+m - s) from fun q=>t q.1),if_neg (show ¬ (mid < mid+m - s∧mid+m - s < b) from fun q=>absurd q.1 e6)]
        by_cases d:s < mid
        · rw [if_pos e6,if_pos ⟨e6,d⟩,hr l e6 d]
        · rw [if_neg e6,if_neg (fun q=>d q.2)]
theorem FU (n):∀ (w:World) (D:Nat→Prop) (h:Option Addr) (g i:Nat) (l0:List aH) (b:Int) (f:Int) (c:Int) (j:List aH) (H:Own w D w [row h g i (q4 aH.cells l0) 153 2]) (d:g=l0.length) (e:l0.length *32≤211106232532992) (a:0≤b∧b < f∧f < c∧c≤((l0.length:Nat):Int)) (hh_:C6 (c - b) < n) (hr:mH l0 b f c=j),
    Calls Tryz.prog 202 #[.slice h g i, .int .i64 b, .int .i64 f, .int .i64 c, .func (.func 166) #[] #[]] w (dA fun v w'=>v= .tuple #[]∧Own w D w' [row h g i (q4 aH.cells j) 153 2]∧(j.length=l0.length)):=by
  induction n with
  | zero=>intro w D h g i l0 b f c j H d e a hh_; omega
  | succ n ih=>
    intro w D h g i l0 b f c j H d e a hh_ hr
    exact pU w D h g i l0 b f c j H d e a ((Ee l0 b f c a).trans hr) _ rfl
      (fun w D h g i l0 b f c j H d e a hs hr=>ih w D h g i l0 b f c j H d e a e6 hr)
theorem BG (w D e a f l0 b c d g) (H:Own w D w [row e a f (q4 aH.cells l0) 153 2]) (h:a=l0.length) (i:l0.length *32≤211106232532992) (j:0≤b∧b < c∧c < d∧d≤((l0.length:Nat):Int)) (hr:mH l0 b c d=g):
    Calls Tryz.prog 202 #[.slice e a f, .int .i64 b, .int .i64 c, .int .i64 d, .func (.func 166) #[] #[]] w (dA fun v w'=>v= .tuple #[]∧Own w D w' [row e a f (q4 aH.cells g) 153 2]∧(g.length=l0.length)):=
  FU _ w D e a f l0 b c d g H h i j (Nat.lt_succ_self _) hr
end Go.Proofs.YtbkagebjhbphaaaGreat
