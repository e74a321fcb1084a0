/-
  A step of the coordinator, or a new one of its state: what is kept; its state may be. Conditions: none beyond each law's own.
-/
import Derived.Test.YtbkagebjhbphaaaGreatCoO
namespace Go.Proofs.YtbkagebjhbphaaaGreat
open Int renaming toNat→D0
open List renaming Pairwise→R7,append_assoc→q4,append_nil→s6,getD→C0,getD_eq_getElem?_getD→L4,length_append→o1,length_singleton→v0,mem_append→v6,mem_map→v4,not_mem_nil→y6,pairwise_append→S1,pairwise_map→V5
open Ll renaming mk→E2
set_option linter.unusedVariables false
set_option linter.unusedSimpArgs false
theorem Gj {k:Nat} {m:aA} {x:bL} (b: ¬ x.aD=6) (H:mR m) (n:Nk k m) (hk:k+1≤1000):Fs k m (eT m x).1.fo.ls (eT m x).2.2:=by
  have s:Fs k m [] m:=Fs.same H n hk fun x hx=>by cases hx
  have g:∀ r,lQ x=r→r=0→Fs k m (iR (bI.mk (E2 [])) x m).1.aX.ls (iR (bI.mk (E2 [])) x m).2:=fun r e a=>by
    obtain⟨o,eo,F⟩:=Fg (t:=(iR (bI.mk (E2 [])) x m).1) (m':=(iR (bI.mk (E2 [])) x m).2) rfl (rR e a) (Gd (e.trans a)) b H n hk
    have eo':(iR (bI.mk (E2 [])) x m).1.aX.ls=o:=eo
    rw [eo']; exact F
  unfold eT bnd
  split
  · dsimp only
    split
    · rename_i a
      split
      · split
        · exact s
        · exact g _ rfl a
      · exact s
    · exact s
  · dsimp only
    split
    · rename_i a
      split
      · exact g _ rfl a
      · exact s
    · exact s
theorem Fp {p t:bI} {n:Nat} {m m':aA} (h:jJ p n m=(t,m')) (H:mR m):∃ o,t.aX.ls=p.aX.ls++o∧Gr m o m':=by
  have s:Gr m [] m:=⟨H,rfl,rfl,fun _ h=>h,fun x hx=>by cases hx⟩
  unfold jJ at h
  simp only [bnd] at h
  rcases ef:bW m.ay.ls n with ⟨i,ok⟩
  rw [ef] at h
  split at h
  case isFalse=>
    obtain⟨rfl,rfl⟩:=Prod.mk.inj h
    exact⟨[],(s6 _).symm,s⟩
  rename_i hok
  have hi:=yG ef hok
  have Y:=H.act _ (qE hi)
  have hA:=CO hi
  obtain⟨y,hy⟩:∃ y,y=dK.mk (C0 m.ay.ls (D0 i) default).aR (C0 m.ay.ls (D0 i) default).aM (C0 m.ay.ls (D0 i) default).aS (C0 m.ay.ls (D0 i) default).dh (E2 (C0 m.ay.ls (D0 i) default).bV.ls) (E2 (C0 m.ay.ls (D0 i) default).aG.ls) (E2 (C0 m.ay.ls (D0 i) default).bD.ls) (E2 (C0 m.ay.ls (D0 i) default).af.ls) (IntKind.i64.wrap ((C0 m.ay.ls (D0 i) default).eO+1)):=⟨_,rfl⟩
  rw [← hy] at h
  have hn:y.aR=(C0 m.ay.ls (D0 i) default).aR:=by rw [hy]
  have Y':Ya y:=by rw [hy]; exact⟨Y.uh,Y.Gv,Y.ops,Y.res⟩
  have K:=H.set hn Y'
  have b:nA (oh m (D0 i) y)=nA m:=vB hn
  have d:Gr m [] (oh m (D0 i) y):=⟨K,rfl,rfl,fun z hz=>(by rw [← b]; exact hz),fun x hx=>by cases hx⟩
  split at h
  · rcases e:fq p i (oh m (D0 i) y) with ⟨f,j⟩
    have e':=e
    unfold oh at e'
    rw [e'] at h
    have hl:D0 i < (oh m (D0 i) y).ay.ls.length:=by unfold oh; simp only [List.length_set]; exact hi
    have ha:=qf hl e
    obtain⟨rfl,a⟩:=Prod.mk.inj h
    obtain rfl:=oG a (by rw [ha.1]; rfl) (by rw [ha.1]; rfl) (by rw [ha.1]; rfl) rfl
    obtain⟨o,eo,g⟩:=xS hl e K
    exact⟨o,eo,d.trans g⟩
  · obtain⟨q,eq,hq⟩:=xR m i (C0 m.ay.ls (D0 i) default) (C0 (List.set m.ay.ls (D0 i) y) (D0 i) default) (C0 (List.set m.ay.ls (D0 i) y) (D0 i) default).aG.ls.length 0 p.aX.ls
    obtain⟨rfl,rfl⟩:=Prod.mk.inj h
    refine⟨q,eq,K,rfl,rfl,fun z hz=>(by rw [← b]; exact hz),fun x hx=> ?_⟩
    obtain⟨c,k2⟩:=hq x hx
    refine⟨fun _=> ?_,fun e=>absurd (c.symm.trans e) f4,fun e=>absurd (c.symm.trans e) f4⟩
    rw [k2,L4,List.getElem?_set_self hi]
    show y.aR ∈ nA m
    rw [hn]; exact hA
theorem Cm (a:aA) (r:List UInt8):∀ (q:List Nat) (l:List bL) (m:aA),mR m→∃ o,(fV a r q l m).1=l++o∧Gr m o (fV a r q l m).2
  | [],l,m,H=>⟨[],(s6 l).symm,H,rfl,rfl,fun _ h=>h,fun x hx=>by cases hx⟩
  | x::q,l,m,H=>by
    obtain⟨b,e,c⟩:=Fp (t:=(jJ (bI.mk (E2 l)) x m).1) (m':=(jJ (bI.mk (E2 l)) x m).2) rfl H
    obtain⟨d,f,g⟩:=Cm a r q (jJ (bI.mk (E2 l)) x m).1.aX.ls _ c.ok
    exact⟨b++d,f.trans (by rw [e]; exact q4 l b d),c.trans g⟩
theorem Co (b:aA) (r:List UInt8) (m:aA):∀ (d:List bH) (l:List bL), ∃ q,jB b r m d l=l++q∧∀ x ∈ q,x.aD=5∧x.cz=true∧∃ y ∈ d,y.aN=x.aN
  | [],l=>⟨[],(s6 l).symm,fun x hx=>by cases hx⟩
  | x::d,l=>by
    obtain⟨c,g,i⟩:=Ck (bI.mk (E2 l)) x.aN x.au.ls true
    obtain⟨f,j,k⟩:=Co b r m d (dZ (bI.mk (E2 l)) x.aN x.au.ls true).aX.ls
    refine⟨c++f,j.trans (by rw [g]; exact q4 l c f),fun y hy=> ?_⟩
    rcases v6.1 hy with h | h
    · obtain⟨a,k2,n⟩:=i y h
      exact⟨a,n,x, .head _,k2.symm⟩
    · obtain⟨a,k2,z,hz,e⟩:=k y h
      exact⟨a,k2,z, .tail _ hz,e⟩
theorem Gm {k:Nat} {m:aA} (H:mR m) (n:Nk k m) (hk:k+1≤1000):Fs k m (jk m).1.fo.ls (jk m).2:=by
  unfold jk bnd
  dsimp only
  obtain⟨o,eo,g⟩:=Cm m (fA m.aa).1 (jK m) [] m H
  have F:=g.fs H n hk
  obtain⟨b,d,f⟩:=Co m (fA m.aa).1 (fV m (fA m.aa).1 (jK m) [] m).2 (fV m (fA m.aa).1 (jK m) [] m).2.aa.aj.ls (fV m (fA m.aa).1 (jK m) [] m).1
  obtain⟨c,h,i⟩:=zi (fA m.aa).1 (fV m (fA m.aa).1 (jK m) [] m).2 (D0 (m.aa.au+1 - 1)+1) 1 _ (by rw [g.st]; exact Nat.lt_succ_self _)
  refine⟨F.ok,F.nk,F.rl,fun x hx=> ?_⟩
  have hx':x ∈ o++b++c:=by
    have e:o++b++c=_:=(h.trans (congrArg (· ++c) (d.trans (congrArg (· ++b) eo)))).symm
    rw [e]; exact hx
  rcases v6.1 hx' with hx | hx
  · rcases v6.1 hx with hx | hx
    · exact F.mo x hx
    · obtain⟨a,k2,y,hy,e⟩:=f x hx
      exact⟨fun e=>absurd (a.symm.trans e) f4,fun _ _=>v4.2 ⟨y,hy,e⟩,fun _ e=>absurd (k2.symm.trans e) f4,fun e=>absurd (a.symm.trans e) f4⟩
  · have a:=i x hx
    exact⟨fun e=>absurd (a.symm.trans e) f4,fun e=>absurd (a.symm.trans e) f4,fun e=>absurd (a.symm.trans e) f4,fun e=>absurd (a.symm.trans e) f4⟩
theorem GJ {k:Nat} {m:aA} (H:mR m) (n:Nk k m) (hk:k+1≤1000):Fs k m [] (qo m.aa):=by
  have hb:(qo m.aa).aa.av=m.aa.av+1:=by
    show D0 (IntKind.u64.wrap (((m.aa.av:Nat):Int)+1))=_
    have:=n.bo
    rw [IntWalk.u64_in _ e6]; omega
  have d:nD (qo m.aa)=nD m:=rfl
  have a:nA (qo m.aa)= []:=rfl
  have b:lS m≤lS (qo m.aa):=by
    have:=n.bg
    unfold lS
    rw [hb,show (qo m.aa).bP=0 from rfl]; omega
  refine⟨⟨⟨H.own,H.sh, ?_,(by rw [a]; exact R7.nil),H.sD,(by rw [a]; exact fun x hx=>by cases hx),(by rw [a]; exact fun x hx=>by cases hx),fun x hx=>Nat.le_trans (H.lD x hx) b,H.sL,H.mH,H.dec,fun y hy=>absurd hy y6⟩,fun c hc h _=> ?_⟩,⟨hk,by rw [hb]; have:=n.bo; omega,Lg _⟩,⟨b,fun _ h=>h,fun _ h=> .inl h,fun x hx=>absurd (a ▸ hx) y6⟩,fun x hx=>by cases hx⟩
  · show 0+m.aa.aj.ls.length≤8; have:=H.len; omega
  · have:(ni (qo m.aa) c).cO=false:=by
      unfold ni
      split
      · rfl
      split
      · rfl
      split
      · rfl
      · rfl
    rw [this] at h; cases h
theorem EM {p:cZ} (hp:p.au=2) {k:Nat} {x:bH} (h:Bt x.au.ls):dU p k x x.au.ls 0= .inl ()∧gB p k x x.au.ls 0= .inl ():=by
  have a:gV 1 2=true:=by decide
  have b:gV 2 2=true:=by decide
  rcases h with e | e | e <;> (rw [e]; simp [dU,gB,ig,hp,a,b,e])
theorem DK {α:Type} [Inhabited α] {pre l:List α} (h:0 < pre.length):C0 (pre++l) (pre.length - 1) default ∈ pre:=by
  rw [L4,List.getElem?_append_left e6,List.getElem?_eq_getElem e6]
  exact List.getElem_mem _
theorem EN {p:cZ} (hp:p.au=2) (hb:p.av < 2147483647):∀ (l pre:List bH),p.aj.ls=pre++l→R7 (fun a b=>a.aN < b.aN) (pre++l)→(∀ d ∈ l,((1≤d.aK∧d.aK≤4)∧Bt d.au.ls)∧d.aN < (p.av+1) *4294967296)→dO p l pre.length= .inl ()
  | [],_,_,_,_=>rfl
  | x::l,pre,e,hs,hd=>by
    obtain⟨⟨hc,hsh⟩,hx⟩:=hd x b1
    have ih:=EN hp hb l (pre++ [x]) (by rw [e,q4]; rfl) (by rw [q4]; exact hs) fun d h=>hd d (.tail _ h)
    rw [o1,v0] at ih
    have c:eU (D0 (IntKind.u64.wrap (((p.av:Nat):Int)+1))) 32=(p.av+1) *4294967296:=by
      rw [IntWalk.u64_in _ e6]
      unfold eU; rw [show min 32 64=32 from rfl,show ((2:Int) ^ 32)=4294967296 from rfl,IntWalk.u64_in _ e6]; omega
    have ha:gV x.aK 4=true:=by unfold gV; rw [if_pos e6]; exact decide_eq_true hc.2
    have hl: ¬ ((x.au.ls.length:Nat):Int)=0:=by rcases hsh with e | e | e <;> (rw [e]; decide)
    simp only [dO,ig,c,ha, ↓reduceIte]
    split
    · have hm:(C0 p.aj.ls (pre.length - 1) default).aN < x.aN:=by
        rw [e]
        exact(S1.1 hs).2.2 _ (DK e6) x b1
      have c1: ¬ ((x.aN:Nat):Int)≤(((C0 p.aj.ls (pre.length - 1) default).aN:Nat):Int):=by omega
      have c2: ¬ ((x.aN:Nat):Int) ≥ (((p.av+1) *4294967296:Nat):Int):=by omega
      rw [if_neg c1,if_neg c2,(EM hp hsh).1]; exact ih
    · rw [if_neg e6,(EM hp hsh).2]; exact ih
theorem CQ {x:eD} (h:Gk x.ai.ls) (k:Nat):∀ (q j:Nat),gq k x q j= .inl ()∧iV k x q j= .inl ()
  | 0,j=>⟨rfl,rfl⟩
  | q+1,j=>by
    have a:iA (aQ.mk (C0 x.ai.ls j default).eF (C0 x.ai.ls j default).aT (E2 (C0 x.ai.ls j default).ak.ls))=true:=Br h j
    simp only [gq,iV,ig,a, ↓reduceIte]
    exact CQ h k q (j+1)
theorem EO {l0:List eD}:∀ (l pre:List eD),l0=pre++l→R7 (fun a b=>a.aK < b.aK) (pre++l)→(∀ d ∈ l,(1≤d.aK∧d.aK≤4)∧d.ai.ls.length≤4∧Gk d.ai.ls)→fJ l0 l pre.length= .inl ()
  | [],_,_,_,_=>rfl
  | x::l,pre,e,hs,hd=>by
    obtain⟨hc,hr,hg⟩:=hd x b1
    have ih:=EO (l0:=l0) l (pre++ [x]) (by rw [e,q4]; rfl) (by rw [q4]; exact hs) fun d h=>hd d (.tail _ h)
    rw [o1,v0] at ih
    have ha:gV x.aK 4=true:=by unfold gV; rw [if_pos e6]; exact decide_eq_true hc.2
    simp only [fJ,ig,ha, ↓reduceIte]
    split
    · have hm:(C0 l0 (pre.length - 1) default).aK < x.aK:=by
        rw [e]
        exact(S1.1 hs).2.2 _ (DK e6) x b1
      rw [if_neg e6,if_neg e6,(CQ hg _ _ _).1]; exact ih
    · rw [if_neg e6,(CQ hg _ _ _).2]; exact ih
theorem few {b:Int}:∀ {L:List Int} {a:Int},R7 (· < ·) L→(∀ x ∈ L,a≤x∧x≤b)→((L.length:Nat):Int)≤max 0 (b - a+1)
  | [],a,_,_=>by simp only [List.length_nil]; omega
  | x::L,a,hs,h=>by
    obtain⟨c,d⟩:=List.pairwise_cons.1 hs
    have:=few (a:=x+1) d fun y hy=>⟨c y hy,(h y (.tail _ hy)).2⟩
    have:=h x b1
    simp only [List.length_cons]; omega
theorem Gn {p:cZ} (ho:p.ag.ls=OW) (hs:p.au=2):ma p=true:=by
  unfold ma
  rw [ho]
  refine(ah (show kR OW=0 by decide+kernel)).trans ?_
  simp [jy,OW,hs,lp]
theorem Gp {k:Nat} {m:aA} (H:mR m) (n:Nk k m):lU m.aa=true:=by
  have hb:=n.bo
  have hk:=n.lt
  have hg:=n.bg
  unfold lU
  have a:=H.len
  rw [if_neg e6]
  refine nT (EN H.sh e6 m.aa.aj.ls [] rfl (V5.1 H.sD) fun d hd=>⟨H.dec d hd, ?_⟩)
  have:=H.lD _ (v4.2 ⟨d,hd,rfl⟩)
  unfold lS at this; omega
theorem Gq {m:aA} (H:mR m):nC m.aa.aF.ls=true:=by
  unfold nC
  have:=few (a:=1) (b:=4) H.sL fun x hx=>by
    obtain⟨l,hl,rfl⟩:=v4.1 hx
    exact(H.mH l hl).1
  rw [List.length_map] at this
  rw [if_neg e6]
  exact nT (EO m.aa.aF.ls [] rfl (V5.1 H.sL) H.mH)
theorem Gs {k:Nat} {m:aA} (H:mR m) (n:Nk k m):gJ m.aa=0:=by
  have hb:=n.bo
  have hk:=n.lt
  have a:gV m.aa.au 4=true:=by rw [H.sh]; decide
  have b:((m.aa.av:Nat):Int) < 2147483648:=by omega
  unfold gJ
  refine(ah a).trans ?_
  rw [if_pos rfl,if_pos b]
  refine(ah (Gn H.own H.sh)).trans ?_
  rw [if_pos rfl]
  refine(ah (Gp H n)).trans ?_
  rw [if_pos rfl]
  exact(ah (Gq H)).trans rfl
end Go.Proofs.YtbkagebjhbphaaaGreat
