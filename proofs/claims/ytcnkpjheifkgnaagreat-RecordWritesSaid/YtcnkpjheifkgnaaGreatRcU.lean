/-
  Numbers and texts: what was written is read as it was, what is read was written so, what was cut is too short.
  Conditions: numbers of 64 bits.
-/
import Derived.Test.YtcnkpjheifkgnaaGreatRcN
namespace Go.Proofs.YtcnkpjheifkgnaaGreat
set_option linter.unusedVariables false
set_option linter.unusedSimpArgs false
theorem uA:∀ (p rest:List UInt8) (k:Nat),oD p→k+List.length p≤10→dM (p++rest) k= .inr ((k+List.length p:Nat):Int)
  | [],_,_,h,_=>h.elim
  | [b],rest,k,h,hk=>by
    have h':b.toNat < 128:=h
    simp only [List.length_cons,List.length_nil] at hk ⊢
    unfold dM
    show (if((k:Nat):Int)=10 then _ else _)=_
    rw [if_neg (by omega),if_pos (by omega)]
  | b::c::r,rest,k,h,hk=>by
    obtain⟨d,a⟩:=h
    have ih:=uA (c::r) rest (k+1) a (by simp only [List.length_cons] at hk ⊢; omega)
    unfold dM
    show (if((k:Nat):Int)=10 then _ else _)=_
    simp only [List.length_cons] at hk
    rw [if_neg (by omega),if_neg (by omega)]
    refine ih.trans ?_
    simp only [List.length_cons]
    rw [show k+1+(List.length r+1)=k+(List.length r+1+1) by omega]
theorem uS:∀ (q:List UInt8) (k:Nat),(∀ b ∈ q,128≤b.toNat)→k+List.length q≤10→dM q k= .inl ()
  | [],_,_,_=>rfl
  | b::q,k,h,hk=>by
    have a:=h b (.head _)
    simp only [List.length_cons] at hk
    unfold dM
    rw [if_neg (by omega),if_neg (by omega)]
    exact uS q (k+1) (fun x hx=>h x (.tail _ hx)) (by omega)
theorem vT:∀ (p q r:List UInt8),oD p→p=q++r→r≠ []→∀ b ∈ q,128≤b.toNat
  | _, [],_,_,_,_,b,hb=>by cases hb
  | [],c::q,r,h,_,_,_,_=>h.elim
  | [a],c::q,r,h,he,hr,b,hb=>by
    have:q++r= []:=by have:=(List.cons.inj he).2; exact this.symm
    exact absurd (List.append_eq_nil_iff.1 this).2 hr
  | a::a'::p,c::q,r,h,he,hr,b,hb=>by
    obtain⟨d,e⟩:=List.cons.inj he
    obtain⟨f,g⟩:=h
    rcases List.mem_cons.1 hb with rfl | hb
    · rw [← d]; exact f
    · exact vT (a'::p) q r g e hr b hb
theorem qV (n:Nat) (hn:n≤18446744073709551615):1≤List.length (dJ n)∧List.length (dJ n)≤10:=by
  obtain⟨f,a,b,c⟩:=oU n
  have d:=sU a
  refine⟨d, ?_⟩
  rcases Nat.lt_or_ge 10 (List.length (dJ n)) with h | h
  · exfalso
    obtain⟨g,i,j⟩:=uy _ a
    have hp:0 < n:=Nat.pos_of_ne_zero fun e=>by have:=c e; omega
    have k:=b hp
    have:(128:Nat) ^ 10≤128 ^ (List.length (dJ n) - 1):=Nat.pow_le_pow_right (by decide) (by omega)
    have l:1 *128 ^ 10≤lH (dJ n) *128 ^ (List.length (dJ n) - 1):=Nat.mul_le_mul (by omega) this
    have:(18446744073709551616:Nat)≤1 *128 ^ 10:=by decide
    omega
  · exact h
theorem vw (n:Nat) (t:List UInt8) (hn:n≤18446744073709551615):cB (bE n++t)=(n,((List.length (bE n):Nat):Int),0):=by
  rw [mI,xB]
  obtain⟨b,c,g,h⟩:=oU n
  have hl:=qV n hn
  have hN:=uA (dJ n) t 0 c (by omega)
  unfold nO
  rcases scan (dJ n++t) (dJ n++t) 0 [] rfl rfl (by simp) (by omega) with ⟨ha,hb⟩ | ⟨p,rest,he,hw,d,ha,hb⟩
  · rw [hN] at ha
    rcases ha with ha | ha
    · cases ha
    · have:=Sum.inr.inj ha; omega
  · rw [hN] at ha
    have hlen:List.length (dJ n)=List.length p:=by have:=Sum.inr.inj ha; omega
    have hp:dJ n=p:=(List.append_inj he hlen).1
    subst hp
    have a:List.length (dJ n) - 1+1=List.length (dJ n):=by omega
    have hz:=horner (dJ n++t) (dJ n) t rfl (List.length (dJ n) - 1) (List.length (dJ n)) (List.length (dJ n)+1) 0 (Nat.le_refl _) (by omega) (by rw [List.drop_of_length_le (Nat.le_refl _)]; rfl)
    have e:Int.toNat ((((List.length (dJ n) - 1:Nat)):Int)+1)=List.length (dJ n):=by omega
    have f:(((List.length (dJ n) - 1:Nat)):Int)=((List.length (dJ n):Nat):Int) - 1:=by omega
    rw [hb,e,aN (x:=jL _ _ _ _ _),f,hz,aN,a,List.take_left,b,Nat.mod_eq_of_lt (by omega),if_neg (by simp)]
    rfl
theorem wF {l:List UInt8} (h:(cB l).2.2=0):l=bE (cB l).1++List.drop (Int.toNat (cB l).2.1) l∧(cB l).1≤18446744073709551615:=by
  rw [xB] at h ⊢
  unfold nO at h ⊢
  rcases scan l l 0 [] rfl rfl (by simp) (by omega) with ⟨ha,hb⟩ | ⟨p,rest,he,hw,b,ha,hb⟩
  · rw [hb] at h
    exfalso
    revert h
    show (lp (lv (Sum.inl ()) fun _=>Sum.inl ()) fun _=>if((List.length l:Nat):Int) ≥ 10 then((0:Nat),(0:Int),(11:Int)) else(0,0,10)).2.2=0→False
    simp only [lp,lv]
    split <;> decide
  · have f:=sU hw
    have a:List.length p - 1+1=List.length p:=by omega
    have hz:=horner l p rest he (List.length p - 1) (List.length p) (List.length p+1) 0 (Nat.le_refl _) (by omega) (by rw [List.drop_of_length_le (Nat.le_refl _)]; rfl)
    have d:Int.toNat ((((List.length p - 1:Nat)):Int)+1)=List.length p:=by omega
    have e:(((List.length p - 1:Nat)):Int)=((List.length p:Nat):Int) - 1:=by omega
    have ht:List.take (List.length p) l=p:=by rw [he,List.take_left]
    rw [hb,d,aN (x:=jL _ _ _ _ _),e,hz,aN,a,ht] at h ⊢
    by_cases c:dJ (dec p % 18446744073709551616)=p
    · rw [if_neg (by simp [c])]
      simp only [lp,lv]
      rw [mI,c,Int.toNat_natCast]
      refine⟨?_, ?_⟩
      · conv=>lhs; rw [he]
        rw [he,List.drop_left]
      · have:=Nat.mod_lt (dec p) (show 0 < 18446744073709551616 by decide); omega
    · rw [if_pos c] at h
      simp only [lp,lv] at h
      exact absurd h (by decide)
theorem yN (n:Nat) (hn:n≤18446744073709551615) (q r:List UInt8) (he:bE n=q++r) (hr:r≠ []):cB q=(0,0,10):=by
  rw [mI] at he
  obtain⟨c,a,d,e⟩:=oU n
  have hl:=qV n hn
  have hq:List.length q+List.length r=List.length (dJ n):=by rw [he,List.length_append]
  have b:1≤List.length r:=by cases r with | nil=>exact absurd rfl hr | cons _ _=>simp
  have hN:=uS q 0 (vT _ q r a he hr) (by omega)
  unfold cB mq
  simp only [aN]
  rw [hN]
  show (if(0:Int)=0 then _ else _)=_
  rw [if_pos rfl,if_neg (by omega)]
end Go.Proofs.YtcnkpjheifkgnaaGreat
