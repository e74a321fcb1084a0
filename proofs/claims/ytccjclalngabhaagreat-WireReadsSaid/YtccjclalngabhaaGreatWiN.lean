/-
  Numbers and texts, written and read: the program's way and the reference's are one.
  Conditions: none beyond each law's own.
-/
import Derived.Test.YtccjclalngabhaaGreatWu
import Derived.Test.YtccjclalngabhaaGreatWx
import Derived.Test.YtccjclalngabhaaGreatWe
import Derived.Test.YtccjclalngabhaaGreatWiD
namespace Go.Proofs.YtccjclalngabhaaGreat
set_option linter.unusedVariables false
set_option linter.unusedSimpArgs false
def dec:List UInt8→Nat
  | []=>0
  | b::r=>b.toNat % 128+128 *dec r
def oh:List UInt8→Prop
  | []=>False
  | [b]=>b.toNat < 128
  | b::c::r=>128≤b.toNat∧oh (c::r)
def kr:List UInt8→Nat
  | []=>0
  | [b]=>b.toNat
  | _::c::r=>kr (c::r)
theorem toN (n:Nat) (h:n < 256):(UInt8.ofNat n).toNat=n:=by
  simp only [UInt8.toNat_ofNat']; omega
theorem wO (n:Nat) (h:n < 128):((UInt8.ofNat n)+(128:UInt8)).toNat=n+128:=by
  rw [UInt8.toNat_add,toN n (by omega)]
  show (n+128) % 2 ^ 8=_
  omega
theorem uF (n:Nat):dec (iV n)=n∧oh (iV n)∧(0 < n→kr (iV n)≠0)∧(n=0→List.length (iV n)=1):=by
  induction n using Nat.strongRecOn with
  | _ n ih=>
    rw [lZ]
    by_cases h:((n:Nat):Int) < 128
    · rw [if_pos h]
      have e:=toN n (by omega)
      simp only [dec,oh,kr,e,List.length_cons,List.length_nil]
      exact⟨by omega,by omega,fun h=>by omega,fun _=>trivial⟩
    · rw [if_neg h,aT]
      obtain⟨b,a,d,_⟩:=ih (n / 128) (by omega)
      have e:=wO (n % 128) (by omega)
      cases hp:iV (n / 128) with
      | nil=>rw [hp] at a; exact a.elim
      | cons c r=>
        rw [hp] at b a d
        simp only [List.cons_append,List.nil_append]
        refine⟨?_,⟨by omega,a⟩,fun _=>d (by omega),by omega⟩
        show _ % 128+128 *dec (c::r)=n
        rw [b,e]
        omega
theorem tN:∀ p:List UInt8,oh p→kr p≠0→0 < dec p
  | [],h,_=>h.elim
  | [b],h,a=>by
    simp only [oh] at h; simp only [kr] at a; simp only [dec]; omega
  | b::c::r,h,a=>by
    have:=tN (c::r) h.2 a
    show 0 < _+128 *dec (c::r)
    omega
theorem ul {a b:UInt8} (h:a.toNat=b.toNat):a=b:=UInt8.toNat_inj.1 h
theorem uG:∀ p:List UInt8,oh p→(List.length p=1∨kr p≠0)→iV (dec p)=p
  | [],h,_=>h.elim
  | [b],h,_=>by
    simp only [oh] at h
    have e:dec [b]=b.toNat:=by simp only [dec]; omega
    rw [e,lZ,if_pos (by omega)]
    exact congrArg (fun x=> [x]) (ul (toN _ (by omega)))
  | b::c::r,h,a=>by
    have hl:kr (c::r)≠0:=by
      rcases a with a | a
      · simp at a
      · exact a
    have hp:=tN (c::r) h.2 hl
    have ih:=uG (c::r) h.2 (.inr hl)
    have e:dec (b::c::r)=b.toNat % 128+128 *dec (c::r):=rfl
    have hb:=UInt8.toNat_lt b
    have d:=h.1
    rw [lZ,if_neg (by omega),aT,e]
    rw [show (b.toNat % 128+128 *dec (c::r)) / 128=dec (c::r) by omega,ih,show (b.toNat % 128+128 *dec (c::r)) % 128=b.toNat % 128 by omega]
    simp only [List.cons_append,List.nil_append]
    exact congrArg (fun x=>x::c::r) (ul (by rw [wO _ (by omega)]; omega))
theorem uH:∀ p:List UInt8,oh p→dec p < (kr p+1) *128 ^ (List.length p - 1)∧kr p *128 ^ (List.length p - 1)≤dec p∧kr p < 128
  | [],h=>h.elim
  | [b],h=>by
    simp only [oh] at h
    simp only [dec,kr,List.length_cons,List.length_nil]
    omega
  | b::c::r,h=>by
    obtain⟨d,f,a⟩:=uH (c::r) h.2
    have e:dec (b::c::r)=b.toNat % 128+128 *dec (c::r):=rfl
    have el:kr (b::c::r)=kr (c::r):=rfl
    have en:List.length (b::c::r) - 1=(List.length (c::r) - 1)+1:=by simp only [List.length_cons]; omega
    rw [e,el,en,Nat.pow_succ, ← Nat.mul_assoc, ← Nat.mul_assoc]
    refine⟨by omega,by omega,a⟩
theorem tO:∀ (pre:List UInt8) (x:UInt8),(∀ b ∈ pre,128≤b.toNat)→x.toNat < 128→oh (pre++ [x])∧kr (pre++ [x])=x.toNat
  | [],x,_,h=>⟨h,rfl⟩
  | [b],x,hb,h=>⟨⟨hb b (by simp),h⟩,rfl⟩
  | b::c::r,x,hb,h=>by
    have ih:=tO (c::r) x (fun y hy=>hb y (List.mem_cons_of_mem _ hy)) h
    exact⟨⟨hb b (by simp),ih.1⟩,ih.2⟩
theorem scan (a:List UInt8):∀ (q:List UInt8) (k:Nat) (pre:List UInt8),a=pre++q→List.length pre=k→(∀ b ∈ pre,128≤b.toNat)→k≤10→
    ((dI q k= .inl ()∨dI q k= .inr 0)∧eU a q k= .inl ())∨
    ∃ p rest,a=p++rest∧oh p∧List.length p≤10∧dI q k= .inr ((List.length p:Nat):Int)∧
      eU a q k=(bnd (gF a (List.length p - 1) ((Int.toNat ((((List.length p - 1:Nat)):Int)+1))+1) 0 (((List.length p - 1:Nat)):Int)) fun z=>bnd (iV z) fun y=>if y≠List.take (List.length p - 1+1) a then Sum.inr (0,0,11) else Sum.inr (z,((List.length p - 1+1:Nat):Int),0))
  | [],k,pre,_,_,_,_=> .inl ⟨.inl rfl,rfl⟩
  | x::q,k,pre,he,hk,hb,d=>by
    unfold dI eU
    by_cases e:k=10
    · subst e
      rw [if_pos (show ((10:Nat):Int)=10 from rfl),if_neg (show ¬ ((10:Nat):Int) < 10 by omega)]
      exact .inl ⟨.inr rfl,rfl⟩
    · rw [if_neg (show ¬ ((k:Nat):Int)=10 by omega),if_pos (show ((k:Nat):Int) < 10 by omega)]
      by_cases c:((x.toNat:Nat):Int) < 128
      · rw [if_pos c,if_neg (show ¬ ((x.toNat:Nat):Int) ≥ 128 by omega)]
        have hw:=tO pre x hb (by omega)
        have hl:List.length (pre++ [x])=k+1:=by rw [List.length_append,hk]; rfl
        refine .inr ⟨pre++ [x],q,by rw [he]; simp,hw.1,by omega,by rw [hl], ?_⟩
        rw [hl]
        rfl
      · rw [if_neg c,if_pos (show ((x.toNat:Nat):Int) ≥ 128 by omega)]
        exact scan a q (k+1) (pre++ [x]) (by rw [he]; simp) (by rw [List.length_append,hk]; rfl) (fun b hm=>by
          rcases List.mem_append.1 hm with hm | hm
          · exact hb b hm
          · rw [List.mem_singleton] at hm; subst hm; omega) (by omega)
theorem horner (a p rest:List UInt8) (he:a=p++rest) (kk:Nat):∀ (z fuel acc:Nat),z≤List.length p→z < fuel→acc=dec (List.drop z p) % 18446744073709551616→
    gF a kk fuel acc (((z:Nat):Int) - 1)=dec p % 18446744073709551616
  | 0,fuel+1,acc,_,_,ha=>by
    unfold gF
    rw [if_neg (by omega),ha,List.drop_zero]
  | z+1,fuel+1,acc,hz,hf,ha=>by
    unfold gF
    rw [if_pos (by omega),aT]
    have d:Int.toNat ((((z+1:Nat)):Int) - 1)=z:=by omega
    have e:((((z+1:Nat)):Int) - 1) - 1=((z:Nat):Int) - 1:=by omega
    rw [d,e]
    refine horner a p rest he kk z fuel _ (by omega) (by omega) ?_
    have hx:List.getD a z default=p[z]'(by omega):=by
      rw [he,List.getD_eq_getElem?_getD,List.getElem?_append_left (by omega),List.getElem?_eq_getElem (by omega)]; rfl
    have hd:List.drop z p=p[z]'(by omega)::List.drop (z+1) p:=List.drop_eq_getElem_cons (by omega)
    rw [hx,hd]
    show _=(_ % 128+128 *dec (List.drop (z+1) p)) % _
    have b:=wrapN (acc *128)
    rw [Int.natCast_mul] at b
    have w1':Int.toNat (IntKind.u64.wrap (((acc:Nat):Int) *128))=acc *128 % 18446744073709551616:=b
    rw [w1']
    have c:=wrapN (acc *128 % 18446744073709551616+(p[z]'(by omega)).toNat % 128)
    rw [Int.natCast_add] at c
    rw [c,ha]
    omega
theorem uI (a s:Nat) (hs:s≤64):kM a s=a *2 ^ s % 18446744073709551616:=by
  unfold kM
  rw [Nat.min_eq_left hs]
  have:=wrapN (a *2 ^ s)
  rw [Int.natCast_mul,Int.natCast_pow] at this
  exact this
theorem wP (b:UInt8):(b &&& (127:UInt8)).toNat=b.toNat % 128:=by
  rw [UInt8.toNat_and]
  show b.toNat &&& 127=_
  exact Nat.and_two_pow_sub_one_eq_mod b.toNat 7
theorem q8:∀ (p:List UInt8) (b:UInt8),dec (p++ [b])=dec p+(b.toNat % 128) *128 ^ List.length p
  | [],b=>by simp [dec]
  | c::r,b=>by
    show c.toNat % 128+128 *dec (r++ [b])=c.toNat % 128+128 *dec r+_
    rw [q8 r b,List.length_cons,Nat.pow_succ,Nat.mul_add, ← Nat.mul_assoc (b.toNat % 128),Nat.mul_comm _ 128]
    omega
theorem qb:∀ (p:List UInt8),dec p < 128 ^ List.length p
  | []=>by simp [dec]
  | c::r=>by
    have:=qb r
    rw [List.length_cons,Nat.pow_succ]
    show c.toNat % 128+128 *dec r < _
    omega
theorem qc:∀ (p:List UInt8) (k:Nat),dec (List.take k p)≤dec p
  | [],k=>by simp
  | c::r,0=>by simp [dec]
  | c::r,k+1=>by
    have:=qc r k
    show c.toNat % 128+128 *dec (List.take k r)≤c.toNat % 128+128 *dec r
    omega
theorem uJ (a p rest:List UInt8) (he:a=p++rest) (c:List.length p≤10) (d:dec p < 18446744073709551616):∀ (q k acc:Nat),k+q=List.length p→acc=dec (List.take k p)→
    eH a ((List.length p:Nat):Int) q acc k=dec p
  | 0,k,acc,hk,ha=>by
    unfold eH
    rw [ha,List.take_of_length_le (by omega)]
  | q+1,k,acc,hk,ha=>by
    unfold eH
    rw [aT]
    refine uJ a p rest he c d q (k+1) _ (by omega) ?_
    have hx:List.getD (List.take (Int.toNat ((List.length p:Nat):Int)) a) k default=p[k]'(by omega):=by
      rw [he,Int.toNat_natCast,List.take_left,List.getD_eq_getElem?_getD,List.getElem?_eq_getElem (by omega)]; rfl
    have ht:List.take (k+1) p=List.take k p++ [p[k]'(by omega)]:=by rw [List.take_add_one,List.getElem?_eq_getElem (by omega)]; rfl
    have hl:List.length (List.take k p)=k:=by rw [List.length_take]; omega
    have hle:=qc p (k+1)
    rw [ht,q8,hl] at hle
    have hlt:=qb (List.take k p)
    rw [hl, ← ha] at hlt
    rw [← ha] at hle
    rw [hx,ht,q8,hl, ← ha,wP,uI _ _ (by omega)]
    have e:(2:Nat) ^ (7 *k)=128 ^ k:=by rw [Nat.pow_mul]
    rw [e]
    rw [Nat.mod_eq_of_lt (show _ < 18446744073709551616 by omega),sD _ _ (by omega) (by omega)]
    have:=Nat.shiftLeft_add_eq_or_of_lt (b:=acc) (i:=7 *k) (by rw [e]; exact hlt) ((p[k]'(by omega)).toNat % 128)
    rw [Nat.shiftLeft_eq,e] at this
    rw [Nat.or_comm, ← this,Nat.add_comm]
theorem sG:∀ (p rest:List UInt8),oh p→List.getD (p++rest) (List.length p - 1) default=UInt8.ofNat (kr p)∧(List.getD (p++rest) (List.length p - 1) default).toNat=kr p
  | [],_,h=>h.elim
  | [b],rest,h=>⟨(ul (by rw [show kr [b]=b.toNat from rfl,toN _ (UInt8.toNat_lt b)]; rfl)).symm,rfl⟩
  | b::c::r,rest,h=>by
    have:=sG (c::r) rest h.2
    exact this
theorem wu {p:List UInt8} (h:oh p):1≤List.length p:=by
  cases p with
  | nil=>exact h.elim
  | cons=>simp
theorem qI (l:List UInt8):dU l=fB l:=by
  unfold dU fB iK
  rcases scan l l 0 [] rfl rfl (by simp) (by omega) with ⟨ha,hb⟩ | ⟨p,rest,he,hw,c,ha,hb⟩
  · have e:(lp (dI l 0) fun _=>(0:Int))=0:=by
      rcases ha with ha | ha <;> rw [ha] <;> rfl
    rw [e,hb,aT,if_pos rfl]
    rfl
  · have u:=wu hw
    have e:(lp (dI l 0) fun _=>(0:Int))=((List.length p:Nat):Int):=by rw [ha]; rfl
    rw [e,hb,aT,if_neg (by omega)]
    have d:List.length p - 1+1=List.length p:=by omega
    have hz:=horner l p rest he (List.length p - 1) (List.length p) (List.length p+1) 0 (Nat.le_refl _) (by omega) (by rw [List.drop_of_length_le (Nat.le_refl _)]; rfl)
    have m:Int.toNat ((((List.length p - 1:Nat)):Int)+1)=List.length p:=by omega
    have n:(((List.length p - 1:Nat)):Int)=((List.length p:Nat):Int) - 1:=by omega
    rw [m,aT (x:=gF _ _ _ _ _),show ((List.length p - 1:Nat):Int)=((List.length p:Nat):Int) - 1 from n,hz,aT,d]
    have ht:List.take (List.length p) l=p:=by rw [he,List.take_left]
    rw [ht]
    have hg:=sG p rest hw
    rw [← he] at hg
    have o:Int.toNat (((List.length p:Nat):Int) - 1)=List.length p - 1:=by omega
    rw [o,aT,hg.2]
    obtain⟨v,q,w⟩:=uH p hw
    obtain⟨r,s,g,i⟩:=uF (dec p % 18446744073709551616)
    by_cases hc:(List.length p=1∨kr p≠0)∧(List.length p < 10∨kr p≤1)
    · have a:dec p < 18446744073709551616:=by
        rcases hc.2 with h | h
        · have:(128:Nat) ^ (List.length p - 1)≤128 ^ 8:=Nat.pow_le_pow_right (by decide) (by omega)
          have t:(kr p+1) *128 ^ (List.length p - 1)≤128 *128 ^ 8:=Nat.mul_le_mul (by omega) this
          have:(128:Nat) *128 ^ 8 < 18446744073709551616:=by decide
          omega
        · have:(128:Nat) ^ (List.length p - 1)≤128 ^ 9:=Nat.pow_le_pow_right (by decide) (by omega)
          have t:(kr p+1) *128 ^ (List.length p - 1)≤2 *128 ^ 9:=Nat.mul_le_mul (by omega) this
          have:(2:Nat) *128 ^ 9=18446744073709551616:=by decide
          omega
      have ec:(if((List.length p:Nat):Int) > 1 then if((kr p:Nat):Int)=0 then true else if((List.length p:Nat):Int)=10 then decide (((kr p:Nat):Int) > 1) else false else false)=false:=by
        by_cases b:((List.length p:Nat):Int) > 1
        · rw [if_pos b,if_neg (by omega)]
          by_cases j:((List.length p:Nat):Int)=10
          · rw [if_pos j]; exact decide_eq_false (by omega)
          · rw [if_neg j]
        · rw [if_neg b]
      rw [ec,aT,if_neg (by decide),Int.toNat_natCast,uJ l p rest he c a (List.length p) 0 0 (by omega) (by simp [dec]),aT]
      rw [Nat.mod_eq_of_lt a,uG p hw hc.1,if_neg (by simp)]
      rfl
    · have ec:(if((List.length p:Nat):Int) > 1 then if((kr p:Nat):Int)=0 then true else if((List.length p:Nat):Int)=10 then decide (((kr p:Nat):Int) > 1) else false else false)=true:=by
        by_cases b:((List.length p:Nat):Int) > 1
        · rw [if_pos b]
          by_cases k:((kr p:Nat):Int)=0
          · rw [if_pos k]
          · rw [if_neg k,if_pos (by omega)]; exact decide_eq_true (by omega)
        · omega
      rw [ec,aT,if_pos rfl]
      have hne:iV (dec p % 18446744073709551616)≠p:=fun hq=>by
        rw [hq] at r s g i
        by_cases f:dec p % 18446744073709551616=0
        · have:=i f
          omega
        · have y:=g (by omega)
          have h10':List.length p=10:=by omega
          rw [h10'] at q
          have:(2:Nat) *128 ^ 9=18446744073709551616:=by decide
          have z:2 *128 ^ (10 - 1)≤kr p *128 ^ (10 - 1):=Nat.mul_le_mul (by omega) (Nat.le_refl _)
          have:=Nat.mod_lt (dec p) (show 0 < 18446744073709551616 by decide)
          omega
      rw [aT,if_pos hne]
      rfl
theorem rt_eq (l:List UInt8) (m:Int):gQ l m=ig l m:=by
  unfold gQ ig
  rw [qI]
end Go.Proofs.YtccjclalngabhaaGreat
