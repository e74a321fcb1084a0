/-
  What a message does to the coordinator; which messages may come. Conditions: none beyond each law's own.
-/
import Derived.Test.YtbkagebjhbphaaaGreatCu
namespace Go.Proofs.YtbkagebjhbphaaaGreat
open Int renaming reduceEq→T2
open List renaming append_nil→s6,length→r8,length_eq_zero_iff→v7,length_replicate→H2,mem_cons→u9,mem_singleton→m4,replicate→r6
open Ll renaming mk→E2
set_option linter.unusedVariables false
set_option linter.unusedSimpArgs false
def p8 (m:aA):aA:= { m with bP:=Int.toNat (IntKind.u64.wrap (((m.bP:Nat):Int)+1)) }
theorem CE {k:Nat} {m:aA} (h:Im k m):(p8 m).bP=m.bP+1:=by
  have a:=h.1
  have b:=h.2.bg
  show Int.toNat (IntKind.u64.wrap (((m.bP:Nat):Int)+1))=_
  rw [IntWalk.u64_in _ e6]; omega
theorem Mk.bu {m:aA} (M:Mk m):Mk (p8 m):=⟨M.oz,M.sV,M.qF,by unfold p8; dsimp only; exact mh _,M.dec,M.mH,M.act,M.mU,M.lT,M.nu,M.ny,M.nz⟩
theorem Tr.bu (p:bI) (m:aA):Tr 1 p m p (p8 m):=⟨rfl,rfl,id,Nat.le_succ _,fun k _ hl h=>by
  have a:=h.2.more
  have e:=CE h
  refine⟨⟨hl, ?_⟩, [],(s6 _).symm, ?_⟩
  · show Iv (k+1) m.aa.av (p8 m).bP (nA m) (nD m); rw [e]; exact a.2.1
  · show lo m≤sS m.aa.av (p8 m).bP (nA m) (nD m); rw [e]; exact a.2.2.2⟩
def zC (m:aA) (x:dK):aA:= { p8 m with ay:=E2 (m.ay.ls++ [x]) }
theorem KW (p:bI) (m:aA) {x:dK} (hx:x.aR=fT m) (hs:r8 m.ay.ls+r8 m.aa.aj.ls < 8):Tr 1 p m p (zC m x):=⟨rfl,rfl,fun _=>by
    show r8 (m.ay.ls++ [x])+r8 m.aa.aj.ls≤8
    rw [List.length_append,List.length_singleton]; omega,Nat.le_succ _,fun k _ hl h=>by
  have a:=h.2.more
  have e:=CE h
  have b:nA (zC m x)=nA m++ [m.aa.av *4294967296+m.bP+1]:=by
    show List.map dK.aR (m.ay.ls++ [x])=_
    rw [List.map_append,List.map_cons,List.map_nil,hx,wJ h]; rfl
  refine⟨⟨hl, ?_⟩, [],(s6 _).symm, ?_⟩
  · show Iv (k+1) m.aa.av (p8 m).bP (nA (zC m x)) (nD m); rw [e,b]; exact a.1
  · show lo m≤sS m.aa.av (p8 m).bP (nA (zC m x)) (nD m); rw [e,b]; exact a.2.2.1⟩
theorem yH (c:Int) (x:bL) (m:aA) (n:Nat) (ps:List gF):∀ (l:List gF) (k:Nat) (o:List bL), ∃ q,iO c x m n ps l k o=o++q∧∀ z ∈ q,z.aD=3∧z.dY=il (zC m (dK.mk n c x.aP m.aa.aL (E2 x.aH.ls) (E2 ps) (E2 (r6 (r8 ps) false)) (E2 (r6 (r8 ps) (E2 []:Ll aQ))) 0))∧z.aN=n
  | [],k,o=>⟨[],(s6 _).symm,fun z hz=>by cases hz⟩
  | y::l,k,o=>by
    simp only [iO,bnd]
    split
    · exact yH c x m n ps l (k+1) o
    · obtain⟨q,e,hq⟩:=yH c x m n ps l (k+1) (o++ [bL.mk 3 0 y.eG 0 0 0 0 0 n (il (zC m (dK.mk n c x.aP m.aa.aL (E2 x.aH.ls) (E2 ps) (E2 (r6 (r8 ps) false)) (E2 (r6 (r8 ps) (E2 []:Ll aQ))) 0))) 0 m.aa.aL 0 0 0 false (bC.mk [] []) (E2 y.aH.ls) (E2 []) (E2 [])])
      refine⟨_::q,e.trans (by rw [List.append_assoc]; rfl),fun z hz=> ?_⟩
      rcases u9.1 hz with rfl | hz
      · exact⟨rfl,rfl,rfl⟩
      · exact hq z hz
theorem Eg {o:bi} (h:kH o=0):o.bS≤1000:=by
  have z:∀ {a:bi},a.bS=0→(a.aD=o.aD∧a.bY=o.bY∧a.aT=o.aT∧a.bF=o.bF∧a.bT=o.bT∧a.bS=o.bS)→o.bS≤1000:=fun c b=>by
    have:=b.2.2.2.2.2; omega
  unfold kH at h
  simp only [bnd] at h
  split at h
  · split at h
    · rename_i b; exact z rfl b
    · cases h
  split at h
  · split at h
    · rename_i b; exact z rfl b
    · cases h
  split at h
  · split at h
    · rename_i b; exact z rfl b
    · cases h
  split at h
  · split at h
    · unfold pW at h
      simp only [bnd] at h
      split at h
      · split at h
        · cases h
        · split at h
          · cases h
          · omega
      · rename_i b c; exact absurd h c
    · cases h
  split at h
  · split at h
    · rename_i b; exact z rfl b
    · cases h
  · cases h
theorem zh:∀ {l:List bi} {r:Int},lp (j6 l) (fun _=>0)=r→r=0→∀ o ∈ l,kH o=0
  | [],_,_,_,o,ho=>by cases ho
  | y::l,r,h,hr,o,ho=>by
    simp only [j6,bnd] at h
    by_cases e:kH y=0
    · rw [if_pos e] at h
      rcases u9.1 ho with rfl | ho
      · exact e
      · exact zh h hr o ho
    · rw [if_neg e] at h
      simp only [lp] at h
      omega
theorem Dv {l:List bi} (h:oo l=0):r8 l≤4∧∀ o ∈ l,o.bS≤1000:=by
  unfold oo pX at h
  simp only [bnd] at h
  split at h
  · cases h
  split at h
  · cases h
  · exact⟨e6,fun o ho=>Eg (zh rfl h o ho)⟩
theorem Dw {l:List bi} (h:oo l=0):∀ o ∈ l,o.bS≤1000:=(Dv h).2
theorem Dx {a:List aY} {l:List bi} {r:List gF} (h:lF a l=(r,0)):oo l=0:=by
  unfold lF at h
  simp only [bnd] at h
  split at h
  · split at h
    · assumption
    · rename_i b; exact absurd (Prod.mk.inj h).2 b
  · rename_i b; exact absurd (Prod.mk.inj h).2 b
theorem CF {p t:bI} {c:Int} {x:bL} {m m':aA} (h:dQ p c x m=(t,m')):Tr 1 p m t m'∧((1≤c∧c≤4)→r8 x.aH.ls≤24→ky x.aP→r8 m.aa.ag.ls≤1000→Mk m→Mk m'):=by
  unfold dQ at h
  simp only [bnd] at h
  rcases ec:lF m.aa.ag.ls x.aH.ls with ⟨ps,e⟩
  rw [ec] at h
  have no:∀ {d:bI} {a:aA},dC p c x.aP 2 [] (p8 m)=(d,a)→(d,aA.mk (cZ.mk a.aa.au a.aa.av a.aa.aV a.aa.aL (E2 m.aa.ag.ls) (E2 m.aa.aj.ls) (E2 m.aa.aF.ls)) a.bP (E2 m.ay.ls) a.bK a.bA a.bz a.bv a.bq a.dP a.dH a.dI a.dG a.dJ)=(t,m')→Tr 1 p m t m'∧((1≤c∧c≤4)→r8 x.aH.ls≤24→ky x.aP→r8 m.aa.ag.ls≤1000→Mk m→Mk m'):=fun {d a} e h=>by
    have ha:=mP e
    obtain⟨rfl,f⟩:=Prod.mk.inj h
    obtain rfl:=oG f (by rw [ha.1]; rfl) (by rw [ha.1]; rfl) (by rw [ha.1]; rfl) (by rw [ha.2.1]; rfl)
    exact⟨(Tr.bu p m).trans (Tr.answer e),fun _ _ hq _ M=>ha.2.2.2.2 mE hq M.bu⟩
  rcases b:dC p c x.aP 2 [] (p8 m) with ⟨d,a⟩
  have e':=b
  unfold p8 at e'
  rw [e'] at h
  split at h
  · exact no b h
  split at h
  · exact no b h
  split at h
  · exact no b h
  split at h
  · rename_i j l _ i
    obtain⟨q,eq,hq⟩:=yH c x m (fT m) ps ps 0 p.aX.ls
    obtain⟨rfl,rfl⟩:=Prod.mk.inj h
    have hb:=KW p m (x:=dK.mk (fT m) c x.aP m.aa.aL (E2 x.aH.ls) (E2 ps) (E2 (r6 (r8 ps) false)) (E2 (r6 (r8 ps) (E2 []:Ll aQ))) 0) rfl e6
    refine⟨hb.tells eq hq fun k _ _=>List.mem_map.2 ⟨_,List.mem_append_right _ b1,rfl⟩,fun hc hl hr ho M=>⟨M.oz,M.sV,M.qF,by dsimp only; exact mh _,M.dec,M.mH,fun y hy=> ?_,M.mU,M.lT,M.nu,M.ny,M.nz⟩⟩
    rcases List.mem_append.1 hy with g | g
    · exact M.act y g
    · rw [m4.1 g]
      have h0':e=0:=i
      subst h0'
      exact⟨by dsimp only; unfold fT; exact mh _,hr,M.qF,H2,H2,Ca ec,hc,⟨hl,Dw (Dx ec)⟩,Cc ec ho hl,fun r hr=>by rw [(List.mem_replicate.1 hr).2]; exact mE⟩
  · exact no b h
theorem rW (p:bI) (c:Int) (x:bL) (m:aA):∀ l:List eD,dW p c x m l= .inl ()∨∃ t z,dW p c x m l= .inr t∧t.aX.ls=p.aX.ls++ [z]∧z.aD=2
  | []=> .inl rfl
  | y::l=>by
    simp only [dW,bnd]
    split
    · split
      · split
        · exact .inr ⟨_,_,rfl,rfl,rfl⟩
        · exact rW p c x m l
      · exact rW p c x m l
    · exact rW p c x m l
theorem Tr.two {p t:bI} {m:aA} {z:bL} (h:t.aX.ls=p.aX.ls++ [z]) (hz:z.aD=2):Tr 1 p m t m:=(Tr.of rfl rfl rfl h fun y hy=>by rw [m4.1 hy,hz]; decide).one
theorem Kb (p:bI) (c:Int) (x:bL) (m:aA):Tr 1 p m (kZ p c x m) m:=by
  unfold kZ
  rcases rW p c x m m.aa.aF.ls with h | ⟨t,z,h,ht,hz⟩
  · rw [nT h]; exact Tr.two rfl rfl
  · rw [jm h]; exact Tr.two ht hz
theorem Bi {p t:bI} {x:bL} {m m':aA} (h:ji p x m=(t,m')) (hf:11≤x.aJ∧x.aJ≤14):Tr 1 p m t m'∧(r8 x.aH.ls≤24→ky x.aP→r8 m.aa.ag.ls≤1000→Mk m→Mk m'):=by
  unfold ji at h
  simp only [bnd] at h
  have sa:∀ {a:bI},Tr 1 p m a m→(a,m)=(t,m')→Tr 1 p m t m'∧(r8 x.aH.ls≤24→ky x.aP→r8 m.aa.ag.ls≤1000→Mk m→Mk m'):=fun T h=>by
    obtain⟨rfl,rfl⟩:=Prod.mk.inj h
    exact⟨T,fun _ _ _ M=>M⟩
  have sn:∀ y,(dw p y,m)=(t,m')→y.aD=2→Tr 1 p m t m'∧(r8 x.aH.ls≤24→ky x.aP→r8 m.aa.ag.ls≤1000→Mk m→Mk m'):=fun y h hy=>by
    obtain⟨z,e,hk,_⟩:=Be p y
    exact sa (Tr.two e (hk.trans hy)) h
  have be:((dQ p (x.aJ - 10) x m).1,(dQ p (x.aJ - 10) x m).2)=(t,m')→Tr 1 p m t m'∧(r8 x.aH.ls≤24→ky x.aP→r8 m.aa.ag.ls≤1000→Mk m→Mk m'):=fun h=>by
    have hb:=CF (show dQ p (x.aJ - 10) x m=(t,m') from h)
    exact⟨hb.1,hb.2 e6⟩
  split at h
  · split at h
    · exact sa (Tr.same p m).one h
    split at h
    · split at h
      · split at h
        · split at h
          · exact sn _ h rfl
          · exact sa (Tr.same p m).one h
        · exact be h
      · exact be h
    split at h
    · split at h
      · split at h
        · split at h
          · exact sn _ h rfl
          · exact sa (Tr.same p m).one h
        · exact be h
      · exact be h
    split at h
    · split at h
      · split at h
        · split at h
          · exact sn _ h rfl
          · exact sa (Tr.same p m).one h
        · exact be h
      · exact be h
    · split at h
      · split at h
        · split at h
          · exact sn _ h rfl
          · exact sa (Tr.same p m).one h
        · exact be h
      · exact be h
  · exact sa (Kb _ _ _ _) h
structure Eh (x:bL):Prop where
  ops:r8 x.aH.ls≤24
  own:r8 x.ag.ls≤1000
  res:nI x.ai.ls
  sU:x.aD=1→11≤x.aJ∧x.aJ≤14
  map:x.aD=9→1≤x.aJ∧x.aJ≤4
theorem Bj {x:bL}:∀ {l:List Int},lp (kD x l) (fun _=>true)=true→∀ f ∈ l,oZ x f=true
  | [],_,f,hf=>by cases hf
  | y::l,h,f,hf=>by
    simp only [kD,bnd] at h
    by_cases e:oZ x y=true
    · rw [if_pos e] at h
      rcases u9.1 hf with rfl | hf
      · exact e
      · exact Bj h f hf
    · rw [if_neg e] at h; cases h
theorem Bl:∀ {l:List aQ},lp (gY l) (fun _=>true)=true→∀ x ∈ l,r8 x.ak.ls≤1000
  | [],_,x,hx=>by cases hx
  | y::l,h,x,hx=>by
    simp only [gY] at h
    split at h
    · cases h
    split at h
    · cases h
    · rename_i hp
      rcases e:iq y.ak.ls with u | b
      · rw [e] at h
        rcases u9.1 hx with rfl | hx
        · omega
        · exact Bl h x hx
      · rw [e] at h
        simp only [qU,lp] at h
        subst h
        exact absurd e (L1f _)
where L1f:∀ l:List aI,iq l≠ .inr true
  | []=>by intro h; cases h
  | y::l=>by
    simp only [iq,bnd]
    split
    · split
      · intro h; cases h
      · exact L1f l
    · intro h; cases h
theorem E5 (p:bL) (r:gZ) (x:Int) (q:List Int) (v w:Int) (y k2 z A B C D E F:Nat) (b:Bool) (G H:List UInt8) (lo:List bi) (lr:List aQ) (lw:List aY):∃ z1' z2' k1' k2' k3' k4' k5' k6' k7' k8' k9' b' s1' s2' lo' lr' lw',cB p r (x::q) v w y k2 z A B C D E F b G H lo lr lw=cB p r q z1' z2' k1' k2' k3' k4' k5' k6' k7' k8' k9' b' s1' s2' lo' lr' lw'∧(x≠7→lo'=lo)∧(x≠3→lr'=lr)∧(x≠11→lw'=lw):=by
  by_cases a:x=0
  · exact⟨_,_,_,_,_,_,_,_,_,_,_,_,_,_,_,_,_,ip a,fun _=>rfl,fun _=>rfl,fun _=>rfl⟩
  by_cases c:x=1
  · exact⟨_,_,_,_,_,_,_,_,_,_,_,_,_,_,_,_,_,et (iN a) (ip c),fun _=>rfl,fun _=>rfl,fun _=>rfl⟩
  by_cases d:x=2
  · exact⟨_,_,_,_,_,_,_,_,_,_,_,_,_,_,_,_,_,et (iN a) (et (iN c) (ip d)),fun _=>rfl,fun _=>rfl,fun _=>rfl⟩
  by_cases e:x=3
  · exact⟨_,_,_,_,_,_,_,_,_,_,_,_,_,_,_,_,_,et (iN a) (et (iN c) (et (iN d) (ip e))),fun _=>rfl,fun h=>absurd e h,fun _=>rfl⟩
  by_cases i:x=4
  · exact⟨_,_,_,_,_,_,_,_,_,_,_,_,_,_,_,_,_,et (iN a) (et (iN c) (et (iN d) (et (iN e) (ip i)))),fun _=>rfl,fun _=>rfl,fun _=>rfl⟩
  by_cases j:x=5
  · exact⟨_,_,_,_,_,_,_,_,_,_,_,_,_,_,_,_,_,et (iN a) (et (iN c) (et (iN d) (et (iN e) (et (iN i) (ip j))))),fun _=>rfl,fun _=>rfl,fun _=>rfl⟩
  by_cases k:x=6
  · exact⟨_,_,_,_,_,_,_,_,_,_,_,_,_,_,_,_,_,et (iN a) (et (iN c) (et (iN d) (et (iN e) (et (iN i) (et (iN j) (ip k)))))),fun _=>rfl,fun _=>rfl,fun _=>rfl⟩
  by_cases l:x=7
  · exact⟨_,_,_,_,_,_,_,_,_,_,_,_,_,_,_,_,_,et (iN a) (et (iN c) (et (iN d) (et (iN e) (et (iN i) (et (iN j) (et (iN k) (ip l))))))),fun h=>absurd l h,fun _=>rfl,fun _=>rfl⟩
  by_cases n:x=8
  · exact⟨_,_,_,_,_,_,_,_,_,_,_,_,_,_,_,_,_,et (iN a) (et (iN c) (et (iN d) (et (iN e) (et (iN i) (et (iN j) (et (iN k) (et (iN l) (ip n)))))))),fun _=>rfl,fun _=>rfl,fun _=>rfl⟩
  by_cases s:x=9
  · exact⟨_,_,_,_,_,_,_,_,_,_,_,_,_,_,_,_,_,et (iN a) (et (iN c) (et (iN d) (et (iN e) (et (iN i) (et (iN j) (et (iN k) (et (iN l) (et (iN n) (ip s))))))))),fun _=>rfl,fun _=>rfl,fun _=>rfl⟩
  by_cases f:x=10
  · exact⟨_,_,_,_,_,_,_,_,_,_,_,_,_,_,_,_,_,et (iN a) (et (iN c) (et (iN d) (et (iN e) (et (iN i) (et (iN j) (et (iN k) (et (iN l) (et (iN n) (et (iN s) (ip f)))))))))),fun _=>rfl,fun _=>rfl,fun _=>rfl⟩
  by_cases g:x=11
  · exact⟨_,_,_,_,_,_,_,_,_,_,_,_,_,_,_,_,_,et (iN a) (et (iN c) (et (iN d) (et (iN e) (et (iN i) (et (iN j) (et (iN k) (et (iN l) (et (iN n) (et (iN s) (et (iN f) (ip g))))))))))),fun _=>rfl,fun _=>rfl,fun h=>absurd g h⟩
  by_cases m:x=12
  · exact⟨_,_,_,_,_,_,_,_,_,_,_,_,_,_,_,_,_,et (iN a) (et (iN c) (et (iN d) (et (iN e) (et (iN i) (et (iN j) (et (iN k) (et (iN l) (et (iN n) (et (iN s) (et (iN f) (et (iN g) (ip m)))))))))))),fun _=>rfl,fun _=>rfl,fun _=>rfl⟩
  by_cases o:x=13
  · exact⟨_,_,_,_,_,_,_,_,_,_,_,_,_,_,_,_,_,et (iN a) (et (iN c) (et (iN d) (et (iN e) (et (iN i) (et (iN j) (et (iN k) (et (iN l) (et (iN n) (et (iN s) (et (iN f) (et (iN g) (et (iN m) (ip o))))))))))))),fun _=>rfl,fun _=>rfl,fun _=>rfl⟩
  by_cases t:x=14
  · exact⟨_,_,_,_,_,_,_,_,_,_,_,_,_,_,_,_,_,et (iN a) (et (iN c) (et (iN d) (et (iN e) (et (iN i) (et (iN j) (et (iN k) (et (iN l) (et (iN n) (et (iN s) (et (iN f) (et (iN g) (et (iN m) (et (iN o) (ip t)))))))))))))),fun _=>rfl,fun _=>rfl,fun _=>rfl⟩
  by_cases u:x=15
  · exact⟨_,_,_,_,_,_,_,_,_,_,_,_,_,_,_,_,_,et (iN a) (et (iN c) (et (iN d) (et (iN e) (et (iN i) (et (iN j) (et (iN k) (et (iN l) (et (iN n) (et (iN s) (et (iN f) (et (iN g) (et (iN m) (et (iN o) (et (iN t) (ip u))))))))))))))),fun _=>rfl,fun _=>rfl,fun _=>rfl⟩
  · exact⟨_,_,_,_,_,_,_,_,_,_,_,_,_,_,_,_,_,et (iN a) (et (iN c) (et (iN d) (et (iN e) (et (iN i) (et (iN j) (et (iN k) (et (iN l) (et (iN n) (et (iN s) (et (iN f) (et (iN g) (et (iN m) (et (iN o) (et (iN t) (iN u))))))))))))))),fun _=>rfl,fun _=>rfl,fun _=>rfl⟩
theorem CG (p:bL) (r:gZ):∀ (q:List Int) (c d:Int) (f k2 g i j k l m n:Nat) (b:Bool) (o s:List UInt8) (lo:List bi) (lr:List aQ) (lw:List aY),
    (7 ∉ q→(cB p r q c d f k2 g i j k l m n b o s lo lr lw).2.2.2.2.2.2.2.2.2.2.2.2.2.2.1=lo)∧(3 ∉ q→(cB p r q c d f k2 g i j k l m n b o s lo lr lw).2.2.2.2.2.2.2.2.2.2.2.2.2.2.2.1=lr)∧(11 ∉ q→(cB p r q c d f k2 g i j k l m n b o s lo lr lw).2.2.2.2.2.2.2.2.2.2.2.2.2.2.2.2=lw)
  | [],c,d,f,k2,g,i,j,k,l,m,n,b,o,s,lo,lr,lw=>⟨fun _=>rfl,fun _=>rfl,fun _=>rfl⟩
  | x::q,c,d,f,k2,g,i,j,k,l,m,n,b,o,s,lo,lr,lw=>by
    obtain⟨z1',z2',k1',k2',k3',k4',k5',k6',k7',k8',k9',b',s1',s2',lo',lr',lw',e,t,u,v⟩:=E5 p r x q c d f k2 g i j k l m n b o s lo lr lw
    have ih:=CG p r q z1' z2' k1' k2' k3' k4' k5' k6' k7' k8' k9' b' s1' s2' lo' lr' lw'
    rw [e]
    exact⟨fun h=>(ih.1 fun a=>h (.tail _ a)).trans (t fun a=>h (a ▸ .head _)),fun h=>(ih.2.1 fun a=>h (.tail _ a)).trans (u fun a=>h (a ▸ .head _)),fun h=>(ih.2.2 fun a=>h (.tail _ a)).trans (v fun a=>h (a ▸ .head _))⟩
theorem zD {x:bL} (h:ru x=true):x.aH.ls= []∧x.ai.ls= []∧x.ag.ls= []:=by
  unfold ru at h
  split at h
  · split at h
    · rename_i a
      exact⟨v7.1 e6,v7.1 e6,v7.1 e6⟩
    · cases h
  · cases h
theorem rR {x:bL} {r:Int} (h:lQ x=r) (b:r=0):Eh x:=by
  subst b
  unfold lQ qC at h
  simp only [bnd] at h
  rcases el:pu x.aD with ⟨y,ok⟩
  rw [el] at h
  split at h
  case isFalse=>cases h
  split at h
  case isFalse=>cases h
  rename_i _ hfrom
  split at h
  case isFalse=>cases h
  split at h
  case isFalse=>cases h
  rename_i hb
  split at h
  case isFalse=>cases h
  rename_i hm
  have hc:=CG x y y.cK.ls x.dz x.eH x.aP x.av x.aN x.dY x.aV x.aL x.dL x.cu x.xN x.cz x.bU.bF x.bU.bT x.aH.ls x.ai.ls x.ag.ls
  have hl:=zD hb
  simp only at hl
  have hf:=Bj hm
  refine⟨?_, ?_, ?_,fun hk=> ?_,fun hk=> ?_⟩
  · by_cases a:(7:Int) ∈ y.cK.ls
    · have:=hf 7 a
      simp only [oZ,rV,bnd,T2, ↓reduceIte] at this
      split at this
      · have:=(Dv (of_decide_eq_true this)).1; omega
      split at this
      · split at this
        · split at this
          · omega
          · cases this
        · cases this
      · split at this
        · omega
        · cases this
    · rw [← hc.1 a,hl.1]; exact Lg _
  · by_cases a:(11:Int) ∈ y.cK.ls
    · have:=hf 11 a
      simp only [oZ,bnd,T2, ↓reduceIte] at this
      have:=of_decide_eq_true this
      unfold kR at this
      split at this
      · cases this
      split at this
      · cases this
      · omega
    · rw [← hc.2.2 a,hl.2.2]; exact Lg _
  · by_cases a:(3:Int) ∈ y.cK.ls
    · have:=hf 3 a
      simp only [oZ,og,bnd,T2, ↓reduceIte] at this
      split at this
      · split at this
        · cases this
        · exact⟨e6,Bl this⟩
      · split at this
        · cases this
        · exact⟨e6,Bl this⟩
    · rw [← hc.2.1 a,hl.2.1]; exact mE
  · rw [hk] at el
    have:y.mG=2:=by rw [← (Prod.mk.inj el).1]
    rw [this] at hfrom
    unfold lN at hfrom
    rw [if_neg f4,if_pos rfl] at hfrom
    split at hfrom
    · have:=of_decide_eq_true hfrom; omega
    · cases hfrom
  · rw [hk] at el
    have:y.mG=1:=by rw [← (Prod.mk.inj el).1]
    rw [this] at hfrom
    unfold lN at hfrom
    rw [if_pos rfl] at hfrom
    split at hfrom
    · have:=of_decide_eq_true hfrom; omega
    · cases hfrom
theorem zF {p t:bI} {x:bL} {m m':aA} (h:iR p x m=(t,m')) (hx:Eh x) (hq:ky x.aP) (ho:r8 m.aa.ag.ls≤1000):Tr 1 p m t m'∧(Mk m→Mk m'):=by
  unfold iR at h
  simp only [bnd] at h
  split at h
  · rename_i hk
    have hr:=Bi (show ji p x m=(t,m') from h) (hx.sU hk)
    exact⟨hr.1,hr.2 hx.ops hq ho⟩
  split at h
  · have hr:=zB (show kg p x m=(t,m') from h)
    exact⟨hr.1,hr.2 hx.res⟩
  split at h
  · exact(pg (show mf p x m=(t,m') from h)).2
  split at h
  · obtain⟨rfl,rfl⟩:=Prod.mk.inj h
    exact⟨EZ p x m,id⟩
  have mp:∀ {a:aA},(p,a)=(t,m')→a.aa=m.aa→a.ay.ls=m.ay.ls→a.bP=m.bP→(Mk m→Mk a)→Tr 1 p m t m'∧(Mk m→Mk m'):=fun h b c d e=>by
    obtain⟨rfl,rfl⟩:=Prod.mk.inj h
    exact⟨(Tr.of b (by unfold nA; rw [c]) d (s6 _).symm fun x hx=>by cases hx).one,e⟩
  split at h
  · split at h
    · exact mp h rfl rfl rfl (fun M=>⟨M.oz,M.sV,M.qF,M.ug,M.dec,M.mH,M.act,M.mU,M.lT,M.nu,M.ny,M.nz⟩)
    split at h
    · exact mp h rfl rfl rfl (fun M=>⟨M.oz,M.sV,M.qF,M.ug,M.dec,M.mH,M.act,M.mU,M.lT,M.nu,M.ny,M.nz⟩)
    split at h
    · exact mp h rfl rfl rfl (fun M=>⟨M.oz,M.sV,M.qF,M.ug,M.dec,M.mH,M.act,M.mU,M.lT,M.nu,M.ny,M.nz⟩)
    · exact mp h rfl rfl rfl (fun M=>⟨M.oz,M.sV,M.qF,M.ug,M.dec,M.mH,M.act,M.mU,M.lT,M.nu,M.ny,M.nz⟩)
  split at h
  · exact mp h rfl rfl rfl id
  split at h
  · exact mp h rfl rfl rfl id
  · exact mp h rfl rfl rfl id
theorem Dy {x:bL} {r:Int} (h:lQ x=r): ¬ (r=0)∨(r8 x.aH.ls≤24∧r8 x.ag.ls≤1000∧r8 x.ai.ls≤1000∧(¬ (x.aD=1)∨11≤x.aJ∧x.aJ≤14)∧(¬ (x.aD=9)∨1≤x.aJ∧x.aJ≤4)):=by
  by_cases a:r=0
  · have M:=rR h a
    refine .inr ⟨M.ops,M.own,M.res.1, ?_, ?_⟩
    · by_cases k:x.aD=1
      · exact .inr (M.sU k)
      · exact .inl k
    · by_cases k:x.aD=9
      · exact .inr (M.map k)
      · exact .inl k
  · exact .inl a
theorem JQ {j:Nat} {p t:bI} {m m':aA} (h:Tr j p m t m') (a:r8 m.ay.ls+r8 m.aa.aj.ls≤8):r8 m'.aa.ag.ls=r8 m.aa.ag.ls∧m'.aa.au=m.aa.au∧r8 m'.ay.ls+r8 m'.aa.aj.ls≤8∧r8 m'.aa.aF.ls≤r8 m.aa.aF.ls+j:=⟨by rw [h.own],h.sh,h.ad a,h.la⟩
theorem wM {p:aA} (h:Mk p):∀ x ∈ p.aa.aj.ls,r8 x.au.ls≤1000000:=fun x hx=>Nat.le_trans (h.dec x hx).2.2.2 f4
theorem wN {p:aA} (h:Mk p):∀ x ∈ p.aa.aF.ls,r8 x.ai.ls≤1000000∧∀ y ∈ x.ai.ls,r8 y.ak.ls≤1000000:=fun x hx=>⟨Nat.le_trans (h.mH x hx).2.2.1 f4,dM (h.mH x hx).2.2⟩
theorem j1 {p:Prop}(h:p:=by first | assumption | exact(rR (by assumption) (by assumption)).res):p:=h
end Go.Proofs.YtbkagebjhbphaaaGreat
