/-
  Numbers and texts, written and read: the program's way and the reference's are one.
  Conditions: none beyond each law's own.
-/
import Derived.Test.YtcnkpjheifkgnaaGreatRn
import Derived.Test.YtcnkpjheifkgnaaGreatRb
import Derived.Test.YtcnkpjheifkgnaaGreatRd
namespace Go.Proofs.YtcnkpjheifkgnaaGreat
set_option linter.unusedVariables false
set_option linter.unusedSimpArgs false
theorem wrapN (n:Nat):Int.toNat (IntKind.u64.wrap ((n:Nat):Int))=n % 18446744073709551616:=by
  simp only [IntKind.wrap,IntKind.signed,IntKind.bits]; simp; omega
theorem wE (a b:Nat) (ha:a < 18446744073709551616) (hb:b < 18446744073709551616):oO a b=a ||| b:=by
  have h:a ||| b < 2 ^ 64:=Nat.or_lt_two_pow (by omega) (by omega)
  have e:(BitVec.ofInt 64 (a:Int) ||| BitVec.ofInt 64 (b:Int)).toNat=a ||| b:=by
    rw [BitVec.toNat_or,BitVec.toNat_ofInt,BitVec.toNat_ofInt]
    rw [show ((a:Int) % ((2 ^ 64:Nat):Int)).toNat=a by omega,show ((b:Int) % ((2 ^ 64:Nat):Int)).toNat=b by omega]
  unfold oO
  rw [e,wrapN]
  omega
def jL (f:List UInt8) (d:Nat):Nat→Nat→Int→Nat
  | 0,b,a=>default
  | e+1,b,a=>if a ≥ 0 then bnd (List.getD f (Int.toNat a) default) fun c=>jL f d e (Int.toNat (IntKind.u64.wrap (((Int.toNat (IntKind.u64.wrap (((b:Nat):Int) *128)):Nat):Int)+((c.toNat % 128:Nat):Int)))) (a - 1) else b
def lW (c:List UInt8):List UInt8→Nat→Unit ⊕ (Nat × Int × Int)
  | [],a=>Sum.inl ()
  | d::e,a=>if((a:Nat):Int) < 10 then if((d.toNat:Nat):Int) ≥ 128 then lW c e (a+1) else bnd (jL c a ((Int.toNat (((a:Nat):Int)+1))+1) 0 ((a:Nat):Int)) fun sLrJjLstfL=>bnd (dJ sLrJjLstfL) fun b=>if b≠(List.take (a+1) c) then Sum.inr (0,0,11) else Sum.inr (sLrJjLstfL,((a+1:Nat):Int),0) else Sum.inl ()
def nO (a:List UInt8):Nat × Int × Int:=
  lp (lv (lW a a 0) fun _=>Sum.inl ()) fun _=>if((a.length:Nat):Int) ≥ 10 then(0,0,11) else(0,0,10)
def dec:List UInt8→Nat
  | []=>0
  | b::r=>b.toNat % 128+128 *dec r
def oD:List UInt8→Prop
  | []=>False
  | [b]=>b.toNat < 128
  | b::c::r=>128≤b.toNat∧oD (c::r)
def lH:List UInt8→Nat
  | []=>0
  | [b]=>b.toNat
  | _::c::r=>lH (c::r)
theorem toN (n:Nat) (h:n < 256):(UInt8.ofNat n).toNat=n:=by
  simp only [UInt8.toNat_ofNat']; omega
theorem yL (n:Nat) (h:n < 128):((UInt8.ofNat n)+(128:UInt8)).toNat=n+128:=by
  rw [UInt8.toNat_add,toN n (by omega)]
  show (n+128) % 2 ^ 8=_
  omega
theorem oU (n:Nat):dec (dJ n)=n∧oD (dJ n)∧(0 < n→lH (dJ n)≠0)∧(n=0→List.length (dJ n)=1):=by
  induction n using Nat.strongRecOn with
  | _ n ih=>
    rw [lL]
    by_cases h:((n:Nat):Int) < 128
    · rw [if_pos h]
      have e:=toN n (by omega)
      simp only [dec,oD,lH,e,List.length_cons,List.length_nil]
      exact⟨by omega,by omega,fun h=>by omega,fun _=>trivial⟩
    · rw [if_neg h,aN]
      obtain⟨b,a,d,_⟩:=ih (n / 128) (by omega)
      have e:=yL (n % 128) (by omega)
      cases hp:dJ (n / 128) with
      | nil=>rw [hp] at a; exact a.elim
      | cons c r=>
        rw [hp] at b a d
        simp only [List.cons_append,List.nil_append]
        refine⟨?_,⟨by omega,a⟩,fun _=>d (by omega),by omega⟩
        show _ % 128+128 *dec (c::r)=n
        rw [b,e]
        omega
theorem uQ:∀ p:List UInt8,oD p→lH p≠0→0 < dec p
  | [],h,_=>h.elim
  | [b],h,a=>by
    simp only [oD] at h; simp only [lH] at a; simp only [dec]; omega
  | b::c::r,h,a=>by
    have:=uQ (c::r) h.2 a
    show 0 < _+128 *dec (c::r)
    omega
theorem vv {a b:UInt8} (h:a.toNat=b.toNat):a=b:=UInt8.toNat_inj.1 h
theorem vQ:∀ p:List UInt8,oD p→(List.length p=1∨lH p≠0)→dJ (dec p)=p
  | [],h,_=>h.elim
  | [b],h,_=>by
    simp only [oD] at h
    have e:dec [b]=b.toNat:=by simp only [dec]; omega
    rw [e,lL,if_pos (by omega)]
    exact congrArg (fun x=> [x]) (vv (toN _ (by omega)))
  | b::c::r,h,a=>by
    have hl:lH (c::r)≠0:=by
      rcases a with a | a
      · simp at a
      · exact a
    have hp:=uQ (c::r) h.2 hl
    have ih:=vQ (c::r) h.2 (.inr hl)
    have e:dec (b::c::r)=b.toNat % 128+128 *dec (c::r):=rfl
    have hb:=UInt8.toNat_lt b
    have d:=h.1
    rw [lL,if_neg (by omega),aN,e]
    rw [show (b.toNat % 128+128 *dec (c::r)) / 128=dec (c::r) by omega,ih,show (b.toNat % 128+128 *dec (c::r)) % 128=b.toNat % 128 by omega]
    simp only [List.cons_append,List.nil_append]
    exact congrArg (fun x=>x::c::r) (vv (by rw [yL _ (by omega)]; omega))
theorem uy:∀ p:List UInt8,oD p→dec p < (lH p+1) *128 ^ (List.length p - 1)∧lH p *128 ^ (List.length p - 1)≤dec p∧lH p < 128
  | [],h=>h.elim
  | [b],h=>by
    simp only [oD] at h
    simp only [dec,lH,List.length_cons,List.length_nil]
    omega
  | b::c::r,h=>by
    obtain⟨d,f,a⟩:=uy (c::r) h.2
    have e:dec (b::c::r)=b.toNat % 128+128 *dec (c::r):=rfl
    have el:lH (b::c::r)=lH (c::r):=rfl
    have en:List.length (b::c::r) - 1=(List.length (c::r) - 1)+1:=by simp only [List.length_cons]; omega
    rw [e,el,en,Nat.pow_succ, ← Nat.mul_assoc, ← Nat.mul_assoc]
    refine⟨by omega,by omega,a⟩
theorem uR:∀ (pre:List UInt8) (x:UInt8),(∀ b ∈ pre,128≤b.toNat)→x.toNat < 128→oD (pre++ [x])∧lH (pre++ [x])=x.toNat
  | [],x,_,h=>⟨h,rfl⟩
  | [b],x,hb,h=>⟨⟨hb b (by simp),h⟩,rfl⟩
  | b::c::r,x,hb,h=>by
    have ih:=uR (c::r) x (fun y hy=>hb y (List.mem_cons_of_mem _ hy)) h
    exact⟨⟨hb b (by simp),ih.1⟩,ih.2⟩
theorem scan (a:List UInt8):∀ (q:List UInt8) (k:Nat) (pre:List UInt8),a=pre++q→List.length pre=k→(∀ b ∈ pre,128≤b.toNat)→k≤10→
    ((dM q k= .inl ()∨dM q k= .inr 0)∧lW a q k= .inl ())∨
    ∃ p rest,a=p++rest∧oD p∧List.length p≤10∧dM q k= .inr ((List.length p:Nat):Int)∧
      lW a q k=(bnd (jL a (List.length p - 1) ((Int.toNat ((((List.length p - 1:Nat)):Int)+1))+1) 0 (((List.length p - 1:Nat)):Int)) fun z=>bnd (dJ z) fun y=>if y≠List.take (List.length p - 1+1) a then Sum.inr (0,0,11) else Sum.inr (z,((List.length p - 1+1:Nat):Int),0))
  | [],k,pre,_,_,_,_=> .inl ⟨.inl rfl,rfl⟩
  | x::q,k,pre,he,hk,hb,d=>by
    unfold dM lW
    by_cases e:k=10
    · subst e
      rw [if_pos (show ((10:Nat):Int)=10 from rfl),if_neg (show ¬ ((10:Nat):Int) < 10 by omega)]
      exact .inl ⟨.inr rfl,rfl⟩
    · rw [if_neg (show ¬ ((k:Nat):Int)=10 by omega),if_pos (show ((k:Nat):Int) < 10 by omega)]
      by_cases c:((x.toNat:Nat):Int) < 128
      · rw [if_pos c,if_neg (show ¬ ((x.toNat:Nat):Int) ≥ 128 by omega)]
        have hw:=uR pre x hb (by omega)
        have hl:List.length (pre++ [x])=k+1:=by rw [List.length_append,hk]; rfl
        refine .inr ⟨pre++ [x],q,by rw [he]; simp,hw.1,by omega,by rw [hl], ?_⟩
        rw [hl]
        rfl
      · rw [if_neg c,if_pos (show ((x.toNat:Nat):Int) ≥ 128 by omega)]
        exact scan a q (k+1) (pre++ [x]) (by rw [he]; simp) (by rw [List.length_append,hk]; rfl) (fun b hm=>by
          rcases List.mem_append.1 hm with hm | hm
          · exact hb b hm
          · rw [List.mem_singleton] at hm; subst hm; omega) (by omega)
theorem horner (a p rest:List UInt8) (he:a=p++rest) (kk:Nat):∀ (z fuel acc:Nat),z≤List.length p→z < fuel→acc=dec (List.drop z p) % 18446744073709551616→
    jL a kk fuel acc (((z:Nat):Int) - 1)=dec p % 18446744073709551616
  | 0,fuel+1,acc,_,_,ha=>by
    unfold jL
    rw [if_neg (by omega),ha,List.drop_zero]
  | z+1,fuel+1,acc,hz,hf,ha=>by
    unfold jL
    rw [if_pos (by omega),aN]
    have d:Int.toNat ((((z+1:Nat)):Int) - 1)=z:=by omega
    have e:((((z+1:Nat)):Int) - 1) - 1=((z:Nat):Int) - 1:=by omega
    rw [d,e]
    refine horner a p rest he kk z fuel _ (by omega) (by omega) ?_
    have hx:List.getD a z default=p[z]'(by omega):=by
      rw [he,List.getD_eq_getElem?_getD,List.getElem?_append_left (by omega),List.getElem?_eq_getElem (by omega)]; rfl
    have hd:List.drop z p=p[z]'(by omega)::List.drop (z+1) p:=List.drop_eq_getElem_cons (by omega)
    rw [hx,hd]
    show _=(_ % 128+128 *dec (List.drop (z+1) p)) % _
    have b:=wrapN (acc *128)
    rw [Int.natCast_mul] at b
    have w1':Int.toNat (IntKind.u64.wrap (((acc:Nat):Int) *128))=acc *128 % 18446744073709551616:=b
    rw [w1']
    have c:=wrapN (acc *128 % 18446744073709551616+(p[z]'(by omega)).toNat % 128)
    rw [Int.natCast_add] at c
    rw [c,ha]
    omega
theorem vR (a s:Nat) (hs:s≤64):aU a s=a *2 ^ s % 18446744073709551616:=by
  unfold aU
  rw [Nat.min_eq_left hs]
  have:=wrapN (a *2 ^ s)
  rw [Int.natCast_mul,Int.natCast_pow] at this
  exact this
theorem yM (b:UInt8):(b &&& (127:UInt8)).toNat=b.toNat % 128:=by
  rw [UInt8.toNat_and]
  show b.toNat &&& 127=_
  exact Nat.and_two_pow_sub_one_eq_mod b.toNat 7
theorem sS:∀ (p:List UInt8) (b:UInt8),dec (p++ [b])=dec p+(b.toNat % 128) *128 ^ List.length p
  | [],b=>by simp [dec]
  | c::r,b=>by
    show c.toNat % 128+128 *dec (r++ [b])=c.toNat % 128+128 *dec r+_
    rw [sS r b,List.length_cons,Nat.pow_succ,Nat.mul_add, ← Nat.mul_assoc (b.toNat % 128),Nat.mul_comm _ 128]
    omega
theorem ru:∀ (p:List UInt8),dec p < 128 ^ List.length p
  | []=>by simp [dec]
  | c::r=>by
    have:=ru r
    rw [List.length_cons,Nat.pow_succ]
    show c.toNat % 128+128 *dec r < _
    omega
theorem ry:∀ (p:List UInt8) (k:Nat),dec (List.take k p)≤dec p
  | [],k=>by simp
  | c::r,0=>by simp [dec]
  | c::r,k+1=>by
    have:=ry r k
    show c.toNat % 128+128 *dec (List.take k r)≤c.toNat % 128+128 *dec r
    omega
theorem vS (a p rest:List UInt8) (he:a=p++rest) (c:List.length p≤10) (d:dec p < 18446744073709551616):∀ (q k acc:Nat),k+q=List.length p→acc=dec (List.take k p)→
    gV a ((List.length p:Nat):Int) q acc k=dec p
  | 0,k,acc,hk,ha=>by
    unfold gV
    rw [ha,List.take_of_length_le (by omega)]
  | q+1,k,acc,hk,ha=>by
    unfold gV
    rw [aN]
    refine vS a p rest he c d q (k+1) _ (by omega) ?_
    have hx:List.getD (List.take (Int.toNat ((List.length p:Nat):Int)) a) k default=p[k]'(by omega):=by
      rw [he,Int.toNat_natCast,List.take_left,List.getD_eq_getElem?_getD,List.getElem?_eq_getElem (by omega)]; rfl
    have ht:List.take (k+1) p=List.take k p++ [p[k]'(by omega)]:=by rw [List.take_add_one,List.getElem?_eq_getElem (by omega)]; rfl
    have hl:List.length (List.take k p)=k:=by rw [List.length_take]; omega
    have hle:=ry p (k+1)
    rw [ht,sS,hl] at hle
    have hlt:=ru (List.take k p)
    rw [hl, ← ha] at hlt
    rw [← ha] at hle
    rw [hx,ht,sS,hl, ← ha,yM,vR _ _ (by omega)]
    have e:(2:Nat) ^ (7 *k)=128 ^ k:=by rw [Nat.pow_mul]
    rw [e]
    rw [Nat.mod_eq_of_lt (show _ < 18446744073709551616 by omega),wE _ _ (by omega) (by omega)]
    have:=Nat.shiftLeft_add_eq_or_of_lt (b:=acc) (i:=7 *k) (by rw [e]; exact hlt) ((p[k]'(by omega)).toNat % 128)
    rw [Nat.shiftLeft_eq,e] at this
    rw [Nat.or_comm, ← this,Nat.add_comm]
theorem uz:∀ (p rest:List UInt8),oD p→List.getD (p++rest) (List.length p - 1) default=UInt8.ofNat (lH p)∧(List.getD (p++rest) (List.length p - 1) default).toNat=lH p
  | [],_,h=>h.elim
  | [b],rest,h=>⟨(vv (by rw [show lH [b]=b.toNat from rfl,toN _ (UInt8.toNat_lt b)]; rfl)).symm,rfl⟩
  | b::c::r,rest,h=>by
    have:=uz (c::r) rest h.2
    exact this
theorem sU {p:List UInt8} (h:oD p):1≤List.length p:=by
  cases p with
  | nil=>exact h.elim
  | cons=>simp
theorem xB (l:List UInt8):cB l=nO l:=by
  unfold cB nO mq
  rcases scan l l 0 [] rfl rfl (by simp) (by omega) with ⟨ha,hb⟩ | ⟨p,rest,he,hw,c,ha,hb⟩
  · have e:(lp (dM l 0) fun _=>(0:Int))=0:=by
      rcases ha with ha | ha <;> rw [ha] <;> rfl
    rw [e,hb,aN,if_pos rfl]
    rfl
  · have u:=sU hw
    have e:(lp (dM l 0) fun _=>(0:Int))=((List.length p:Nat):Int):=by rw [ha]; rfl
    rw [e,hb,aN,if_neg (by omega)]
    have d:List.length p - 1+1=List.length p:=by omega
    have hz:=horner l p rest he (List.length p - 1) (List.length p) (List.length p+1) 0 (Nat.le_refl _) (by omega) (by rw [List.drop_of_length_le (Nat.le_refl _)]; rfl)
    have m:Int.toNat ((((List.length p - 1:Nat)):Int)+1)=List.length p:=by omega
    have n:(((List.length p - 1:Nat)):Int)=((List.length p:Nat):Int) - 1:=by omega
    rw [m,aN (x:=jL _ _ _ _ _),show ((List.length p - 1:Nat):Int)=((List.length p:Nat):Int) - 1 from n,hz,aN,d]
    have ht:List.take (List.length p) l=p:=by rw [he,List.take_left]
    rw [ht]
    have hg:=uz p rest hw
    rw [← he] at hg
    have o:Int.toNat (((List.length p:Nat):Int) - 1)=List.length p - 1:=by omega
    rw [o,aN,hg.2]
    obtain⟨v,q,w⟩:=uy p hw
    obtain⟨r,s,g,i⟩:=oU (dec p % 18446744073709551616)
    by_cases hc:(List.length p=1∨lH p≠0)∧(List.length p < 10∨lH p≤1)
    · have a:dec p < 18446744073709551616:=by
        rcases hc.2 with h | h
        · have:(128:Nat) ^ (List.length p - 1)≤128 ^ 8:=Nat.pow_le_pow_right (by decide) (by omega)
          have t:(lH p+1) *128 ^ (List.length p - 1)≤128 *128 ^ 8:=Nat.mul_le_mul (by omega) this
          have:(128:Nat) *128 ^ 8 < 18446744073709551616:=by decide
          omega
        · have:(128:Nat) ^ (List.length p - 1)≤128 ^ 9:=Nat.pow_le_pow_right (by decide) (by omega)
          have t:(lH p+1) *128 ^ (List.length p - 1)≤2 *128 ^ 9:=Nat.mul_le_mul (by omega) this
          have:(2:Nat) *128 ^ 9=18446744073709551616:=by decide
          omega
      have ec:(if((List.length p:Nat):Int) > 1 then if((lH p:Nat):Int)=0 then true else if((List.length p:Nat):Int)=10 then decide (((lH p:Nat):Int) > 1) else false else false)=false:=by
        by_cases b:((List.length p:Nat):Int) > 1
        · rw [if_pos b,if_neg (by omega)]
          by_cases j:((List.length p:Nat):Int)=10
          · rw [if_pos j]; exact decide_eq_false (by omega)
          · rw [if_neg j]
        · rw [if_neg b]
      rw [ec,aN,if_neg (by decide),Int.toNat_natCast,vS l p rest he c a (List.length p) 0 0 (by omega) (by simp [dec]),aN]
      rw [Nat.mod_eq_of_lt a,vQ p hw hc.1,if_neg (by simp)]
      rfl
    · have ec:(if((List.length p:Nat):Int) > 1 then if((lH p:Nat):Int)=0 then true else if((List.length p:Nat):Int)=10 then decide (((lH p:Nat):Int) > 1) else false else false)=true:=by
        by_cases b:((List.length p:Nat):Int) > 1
        · rw [if_pos b]
          by_cases k:((lH p:Nat):Int)=0
          · rw [if_pos k]
          · rw [if_neg k,if_pos (by omega)]; exact decide_eq_true (by omega)
        · omega
      rw [ec,aN,if_pos rfl]
      have hne:dJ (dec p % 18446744073709551616)≠p:=fun hq=>by
        rw [hq] at r s g i
        by_cases f:dec p % 18446744073709551616=0
        · have:=i f
          omega
        · have y:=g (by omega)
          have h10':List.length p=10:=by omega
          rw [h10'] at q
          have:(2:Nat) *128 ^ 9=18446744073709551616:=by decide
          have z:2 *128 ^ (10 - 1)≤lH p *128 ^ (10 - 1):=Nat.mul_le_mul (by omega) (Nat.le_refl _)
          have:=Nat.mod_lt (dec p) (show 0 < 18446744073709551616 by decide)
          omega
      rw [aN,if_pos hne]
      rfl
theorem yu (n:Nat):(UInt8.ofNat n ||| (128:UInt8))=UInt8.ofNat (n % 128)+(128:UInt8):=by
  have h:∀ x:_root_.Fin 256,(UInt8.ofNat x.val ||| (128:UInt8))=UInt8.ofNat (x.val % 128)+(128:UInt8):=by decide+kernel
  have e:UInt8.ofNat n=UInt8.ofNat (n % 256):=by
    apply UInt8.toNat_inj.1
    simp only [UInt8.toNat_ofNat']
    omega
  have a:=h ⟨n % 256,Nat.mod_lt _ (by decide)⟩
  rw [e,a]
  show UInt8.ofNat (n % 256 % 128)+_=_
  rw [show n % 256 % 128=n % 128 by omega]
theorem xC:∀ (f n:Nat) (l:List UInt8),n < f→(jm f n l).2++ [UInt8.ofNat (jm f n l).1]=l++dJ n
  | 0,n,l,h=>absurd h (Nat.not_lt_zero _)
  | f+1,n,l,h=>by
    unfold jm
    by_cases c:((n:Nat):Int) ≥ 128
    · rw [if_pos c,xC f (n / 128) _ (by omega),lL n,if_neg (by omega),aN,yu,List.append_assoc]
    · rw [if_neg c,lL n,if_pos (by omega)]
theorem mI (n:Nat):bE n=dJ n:=by
  unfold bE
  rw [aN,xC (n+1) n [] (by omega),List.nil_append]
theorem yw (s:List UInt8):dG s=ow s:=by
  unfold dG ow
  rw [mI]
end Go.Proofs.YtcnkpjheifkgnaaGreat
