/-
  What a message does to the coordinator; which messages may come. Conditions: none beyond each law's own.
-/
import Derived.Test.YtbkagebjhbphaaaGreatCu
namespace Go.Proofs.YtbkagebjhbphaaaGreat
open Int renaming reduceEq→T3
open List renaming append_nil→s6,length→s0,length_eq_zero_iff→v4,length_replicate→H0,mem_cons→u2,mem_singleton→m5,replicate→r7
open Ll renaming mk→E0
set_option linter.unusedVariables false
set_option linter.unusedSimpArgs false
def vB (m:aD):aD:= { m with bT:=Int.toNat (IntKind.u64.wrap (((m.bT:Nat):Int)+1)) }
theorem EO {k:Nat} {m:aD} (h:Im k m):(vB m).bT=m.bT+1:=by
  have a:=h.1
  have b:=h.2.bg
  show Int.toNat (IntKind.u64.wrap (((m.bT:Nat):Int)+1))=_
  rw [IntWalk.u64_in _ e6]; omega
theorem Mk.bu {m:aD} (M:Mk m):Mk (vB m):=⟨M.oI,M.sF,M.qz,by unfold vB; dsimp only; exact lV _,M.dec,M.pO,M.act,M.nK,M.mh,M.nV,M.nW,M.nX⟩
theorem Tr.bu (p:bU) (m:aD):Tr 1 p m p (vB m):=⟨rfl,rfl,id,Nat.le_succ _,fun k _ hl h=>by
  have a:=h.2.more
  have e:=EO h
  refine⟨⟨hl, ?_⟩, [],(s6 _).symm, ?_⟩
  · show Iv (k+1) m.aa.ax (vB m).bT (nA m) (nD m); rw [e]; exact a.2.1
  · show lo m≤sw m.aa.ax (vB m).bT (nA m) (nD m); rw [e]; exact a.2.2.2⟩
def AR (m:aD) (x:ed):aD:= { vB m with aC:=E0 (m.aC.ls++ [x]) }
theorem K6 (p:bU) (m:aD) {x:ed} (hx:x.bI=gu m) (hs:s0 m.aC.ls+s0 m.aa.ak.ls < 8):Tr 1 p m p (AR m x):=⟨rfl,rfl,fun _=>by
    show s0 (m.aC.ls++ [x])+s0 m.aa.ak.ls≤8
    rw [List.length_append,List.length_singleton]; omega,Nat.le_succ _,fun k _ hl h=>by
  have a:=h.2.more
  have e:=EO h
  have b:nA (AR m x)=nA m++ [m.aa.ax *4294967296+m.bT+1]:=by
    show List.map ed.bI (m.aC.ls++ [x])=_
    rw [List.map_append,List.map_cons,List.map_nil,hx,ze h]; rfl
  refine⟨⟨hl, ?_⟩, [],(s6 _).symm, ?_⟩
  · show Iv (k+1) m.aa.ax (vB m).bT (nA (AR m x)) (nD m); rw [e,b]; exact a.1
  · show lo m≤sw m.aa.ax (vB m).bT (nA (AR m x)) (nD m); rw [e,b]; exact a.2.2.1⟩
theorem AU (c:Int) (x:bW) (m:aD) (n:Nat) (ps:List fu):∀ (l:List fu) (k:Nat) (o:List bW), ∃ q,gD c x m n ps l k o=o++q∧∀ z ∈ q,z.av=3∧z.eQ=gQ (AR m (ed.mk n c x.aU m.aa.aF (E0 x.aB.ls) (E0 ps) (E0 (r7 (s0 ps) false)) (E0 (r7 (s0 ps) (E0 []:Ll aQ))) 0))∧z.aX=n
  | [],k,o=>⟨[],(s6 _).symm,fun z hz=>by cases hz⟩
  | y::l,k,o=>by
    simp only [gD,bnd]
    split
    · exact AU c x m n ps l (k+1) o
    · obtain⟨q,e,hq⟩:=AU c x m n ps l (k+1) (o++ [bW.mk 3 0 y.bE 0 0 0 0 0 n (gQ (AR m (ed.mk n c x.aU m.aa.aF (E0 x.aB.ls) (E0 ps) (E0 (r7 (s0 ps) false)) (E0 (r7 (s0 ps) (E0 []:Ll aQ))) 0))) 0 m.aa.aF 0 0 0 false (aL.mk [] []) (E0 y.aB.ls) (E0 []) (E0 [])])
      refine⟨_::q,e.trans (by rw [List.append_assoc]; rfl),fun z hz=> ?_⟩
      rcases u2.1 hz with rfl | hz
      · exact⟨rfl,rfl,rfl⟩
      · exact hq z hz
theorem Ep {o:aN} (h:eu o=0):o.aV≤1000:=by
  have z:∀ {a:aN},a.aV=0→(a.av=o.av∧a.aZ=o.aZ∧a.aG=o.aG∧a.aJ=o.aJ∧a.aR=o.aR∧a.aV=o.aV)→o.aV≤1000:=fun c b=>by
    have:=b.2.2.2.2.2; omega
  unfold eu at h
  simp only [bnd] at h
  split at h
  · split at h
    · rename_i b; exact z rfl b
    · cases h
  split at h
  · split at h
    · rename_i b; exact z rfl b
    · cases h
  split at h
  · split at h
    · rename_i b; exact z rfl b
    · cases h
  split at h
  · split at h
    · unfold nR at h
      simp only [bnd] at h
      split at h
      · split at h
        · cases h
        · split at h
          · cases h
          · omega
      · rename_i b c; exact absurd h c
    · cases h
  split at h
  · split at h
    · rename_i b; exact z rfl b
    · cases h
  · cases h
theorem BV:∀ {l:List aN} {r:Int},lp (iH l) (fun _=>0)=r→r=0→∀ o ∈ l,eu o=0
  | [],_,_,_,o,ho=>by cases ho
  | y::l,r,h,hr,o,ho=>by
    simp only [iH,bnd] at h
    by_cases e:eu y=0
    · rw [if_pos e] at h
      rcases u2.1 ho with rfl | ho
      · exact e
      · exact BV h hr o ho
    · rw [if_neg e] at h
      simp only [lp] at h
      omega
theorem Dx {l:List aN} (h:kC l=0):s0 l≤4∧∀ o ∈ l,o.aV≤1000:=by
  unfold kC mU at h
  simp only [bnd] at h
  split at h
  · cases h
  split at h
  · cases h
  · exact⟨e6,fun o ho=>Ep (BV rfl h o ho)⟩
theorem Dy {l:List aN} (h:kC l=0):∀ o ∈ l,o.aV≤1000:=(Dx h).2
theorem Gi {a:List aM} {l:List aN} {r:List fu} (h:ko a l=(r,0)):kC l=0:=by
  unfold ko at h
  simp only [bnd] at h
  split at h
  · split at h
    · assumption
    · rename_i b; exact absurd (Prod.mk.inj h).2 b
  · rename_i b; exact absurd (Prod.mk.inj h).2 b
theorem Cy {p t:bU} {c:Int} {x:bW} {m m':aD} (h:dS p c x m=(t,m')):Tr 1 p m t m'∧((1≤c∧c≤4)→s0 x.aB.ls≤24→jR x.aU→s0 m.aa.ag.ls≤1000→Mk m→Mk m'):=by
  unfold dS at h
  simp only [bnd] at h
  rcases ec:ko m.aa.ag.ls x.aB.ls with ⟨ps,e⟩
  rw [ec] at h
  have no:∀ {d:bU} {a:aD},dL p c x.aU 2 [] (vB m)=(d,a)→(d,aD.mk (bZ.mk a.aa.au a.aa.ax a.aa.bG a.aa.aF (E0 m.aa.ag.ls) (E0 m.aa.ak.ls) (E0 m.aa.aK.ls)) a.bT (E0 m.aC.ls) a.bM a.bD a.bA a.bC a.bB a.dO a.dG a.dH a.dD a.dE)=(t,m')→Tr 1 p m t m'∧((1≤c∧c≤4)→s0 x.aB.ls≤24→jR x.aU→s0 m.aa.ag.ls≤1000→Mk m→Mk m'):=fun {d a} e h=>by
    have ha:=ru e
    obtain⟨rfl,f⟩:=Prod.mk.inj h
    obtain rfl:=uX f (by rw [ha.1]; rfl) (by rw [ha.1]; rfl) (by rw [ha.1]; rfl) (by rw [ha.2.1]; rfl)
    exact⟨(Tr.bu p m).trans (Tr.answer e),fun _ _ hq _ M=>ha.2.2.2.2 l9 hq M.bu⟩
  rcases b:dL p c x.aU 2 [] (vB m) with ⟨d,a⟩
  have e':=b
  unfold vB at e'
  rw [e'] at h
  split at h
  · exact no b h
  split at h
  · exact no b h
  split at h
  · exact no b h
  split at h
  · rename_i j l _ i
    obtain⟨q,eq,hq⟩:=AU c x m (gu m) ps ps 0 p.bF.ls
    obtain⟨rfl,rfl⟩:=Prod.mk.inj h
    have hb:=K6 p m (x:=ed.mk (gu m) c x.aU m.aa.aF (E0 x.aB.ls) (E0 ps) (E0 (r7 (s0 ps) false)) (E0 (r7 (s0 ps) (E0 []:Ll aQ))) 0) rfl e6
    refine⟨hb.tells eq hq fun k _ _=>List.mem_map.2 ⟨_,List.mem_append_right _ b1,rfl⟩,fun hc hl hr ho M=>⟨M.oI,M.sF,M.qz,by dsimp only; exact lV _,M.dec,M.pO,fun y hy=> ?_,M.nK,M.mh,M.nV,M.nW,M.nX⟩⟩
    rcases List.mem_append.1 hy with g | g
    · exact M.act y g
    · rw [m5.1 g]
      have h0':e=0:=i
      subst h0'
      exact⟨by dsimp only; unfold gu; exact lV _,hr,M.qz,H0,H0,BL ec,hc,⟨hl,Dy (Gi ec)⟩,BO ec ho hl,fun r hr=>by rw [(List.mem_replicate.1 hr).2]; exact l9⟩
  · exact no b h
theorem rE (p:bU) (c:Int) (x:bW) (m:aD):∀ l:List fF,eU p c x m l= .inl ()∨∃ t z,eU p c x m l= .inr t∧t.bF.ls=p.bF.ls++ [z]∧z.av=2
  | []=> .inl rfl
  | y::l=>by
    simp only [eU,bnd]
    split
    · split
      · split
        · exact .inr ⟨_,_,rfl,rfl,rfl⟩
        · exact rE p c x m l
      · exact rE p c x m l
    · exact rE p c x m l
theorem Tr.two {p t:bU} {m:aD} {z:bW} (h:t.bF.ls=p.bF.ls++ [z]) (hz:z.av=2):Tr 1 p m t m:=(JY rfl rfl rfl h fun y hy=>by rw [m5.1 hy,hz]; decide).one
theorem Kj (p:bU) (c:Int) (x:bW) (m:aD):Tr 1 p m (lK p c x m) m:=by
  unfold lK
  rcases rE p c x m m.aa.aK.ls with h | ⟨t,z,h,ht,hz⟩
  · rw [mF h]; exact Tr.two rfl rfl
  · rw [gL h]; exact Tr.two ht hz
theorem AV {p t:bU} {x:bW} {m m':aD} (h:iU p x m=(t,m')) (hf:11≤x.aI∧x.aI≤14):Tr 1 p m t m'∧(s0 x.aB.ls≤24→jR x.aU→s0 m.aa.ag.ls≤1000→Mk m→Mk m'):=by
  unfold iU at h
  simp only [bnd] at h
  have sa:∀ {a:bU},Tr 1 p m a m→(a,m)=(t,m')→Tr 1 p m t m'∧(s0 x.aB.ls≤24→jR x.aU→s0 m.aa.ag.ls≤1000→Mk m→Mk m'):=fun T h=>by
    obtain⟨rfl,rfl⟩:=Prod.mk.inj h
    exact⟨T,fun _ _ _ M=>M⟩
  have sn:∀ y,(dM p y,m)=(t,m')→y.av=2→Tr 1 p m t m'∧(s0 x.aB.ls≤24→jR x.aU→s0 m.aa.ag.ls≤1000→Mk m→Mk m'):=fun y h hy=>by
    obtain⟨z,e,hk,_⟩:=AO p y
    exact sa (Tr.two e (hk.trans hy)) h
  have be:((dS p (x.aI - 10) x m).1,(dS p (x.aI - 10) x m).2)=(t,m')→Tr 1 p m t m'∧(s0 x.aB.ls≤24→jR x.aU→s0 m.aa.ag.ls≤1000→Mk m→Mk m'):=fun h=>by
    have hb:=Cy (show dS p (x.aI - 10) x m=(t,m') from h)
    exact⟨hb.1,hb.2 e6⟩
  split at h
  · split at h
    · exact sa (Tr.same p m).one h
    split at h
    · split at h
      · split at h
        · split at h
          · exact sn _ h rfl
          · exact sa (Tr.same p m).one h
        · exact be h
      · exact be h
    split at h
    · split at h
      · split at h
        · split at h
          · exact sn _ h rfl
          · exact sa (Tr.same p m).one h
        · exact be h
      · exact be h
    split at h
    · split at h
      · split at h
        · split at h
          · exact sn _ h rfl
          · exact sa (Tr.same p m).one h
        · exact be h
      · exact be h
    · split at h
      · split at h
        · split at h
          · exact sn _ h rfl
          · exact sa (Tr.same p m).one h
        · exact be h
      · exact be h
  · exact sa (Kj _ _ _ _) h
structure Gj (x:bW):Prop where
  ops:s0 x.aB.ls≤24
  own:s0 x.ag.ls≤1000
  res:mV x.ah.ls
  tY:x.av=1→11≤x.aI∧x.aI≤14
  map:x.av=9→1≤x.aI∧x.aI≤4
theorem AX {x:bW}:∀ {l:List Int},lp (jU x l) (fun _=>true)=true→∀ f ∈ l,oD x f=true
  | [],_,f,hf=>by cases hf
  | y::l,h,f,hf=>by
    simp only [jU,bnd] at h
    by_cases e:oD x y=true
    · rw [if_pos e] at h
      rcases u2.1 hf with rfl | hf
      · exact e
      · exact AX h f hf
    · rw [if_neg e] at h; cases h
theorem AY:∀ {l:List aQ},lp (gI l) (fun _=>true)=true→∀ x ∈ l,s0 x.aj.ls≤1000
  | [],_,x,hx=>by cases hx
  | y::l,h,x,hx=>by
    simp only [gI] at h
    split at h
    · cases h
    split at h
    · cases h
    · rename_i hp
      rcases e:gY y.aj.ls with u | b
      · rw [e] at h
        rcases u2.1 hx with rfl | hx
        · omega
        · exact AY h x hx
      · rw [e] at h
        simp only [sW,lp] at h
        subst h
        exact absurd e (L1f _)
where L1f:∀ l:List aH,gY l≠ .inr true
  | []=>by intro h; cases h
  | y::l=>by
    simp only [gY,bnd]
    split
    · split
      · intro h; cases h
      · exact L1f l
    · intro h; cases h
theorem Fu (p:bW) (r:fT) (x:Int) (q:List Int) (v w:Int) (y k2 z A B C D E F:Nat) (b:Bool) (G H:List UInt8) (lo:List aN) (lr:List aQ) (lw:List aM):∃ z1' z2' k1' k2' k3' k4' k5' k6' k7' k8' k9' b' s1' s2' lo' lr' lw',bV p r (x::q) v w y k2 z A B C D E F b G H lo lr lw=bV p r q z1' z2' k1' k2' k3' k4' k5' k6' k7' k8' k9' b' s1' s2' lo' lr' lw'∧(x≠7→lo'=lo)∧(x≠3→lr'=lr)∧(x≠11→lw'=lw):=by
  by_cases a:x=0
  · exact⟨_,_,_,_,_,_,_,_,_,_,_,_,_,_,_,_,_,ip a,fun _=>rfl,fun _=>rfl,fun _=>rfl⟩
  by_cases c:x=1
  · exact⟨_,_,_,_,_,_,_,_,_,_,_,_,_,_,_,_,_,et (iN a) (ip c),fun _=>rfl,fun _=>rfl,fun _=>rfl⟩
  by_cases d:x=2
  · exact⟨_,_,_,_,_,_,_,_,_,_,_,_,_,_,_,_,_,et (iN a) (et (iN c) (ip d)),fun _=>rfl,fun _=>rfl,fun _=>rfl⟩
  by_cases e:x=3
  · exact⟨_,_,_,_,_,_,_,_,_,_,_,_,_,_,_,_,_,et (iN a) (et (iN c) (et (iN d) (ip e))),fun _=>rfl,fun h=>absurd e h,fun _=>rfl⟩
  by_cases i:x=4
  · exact⟨_,_,_,_,_,_,_,_,_,_,_,_,_,_,_,_,_,et (iN a) (et (iN c) (et (iN d) (et (iN e) (ip i)))),fun _=>rfl,fun _=>rfl,fun _=>rfl⟩
  by_cases j:x=5
  · exact⟨_,_,_,_,_,_,_,_,_,_,_,_,_,_,_,_,_,et (iN a) (et (iN c) (et (iN d) (et (iN e) (et (iN i) (ip j))))),fun _=>rfl,fun _=>rfl,fun _=>rfl⟩
  by_cases k:x=6
  · exact⟨_,_,_,_,_,_,_,_,_,_,_,_,_,_,_,_,_,et (iN a) (et (iN c) (et (iN d) (et (iN e) (et (iN i) (et (iN j) (ip k)))))),fun _=>rfl,fun _=>rfl,fun _=>rfl⟩
  by_cases l:x=7
  · exact⟨_,_,_,_,_,_,_,_,_,_,_,_,_,_,_,_,_,et (iN a) (et (iN c) (et (iN d) (et (iN e) (et (iN i) (et (iN j) (et (iN k) (ip l))))))),fun h=>absurd l h,fun _=>rfl,fun _=>rfl⟩
  by_cases n:x=8
  · exact⟨_,_,_,_,_,_,_,_,_,_,_,_,_,_,_,_,_,et (iN a) (et (iN c) (et (iN d) (et (iN e) (et (iN i) (et (iN j) (et (iN k) (et (iN l) (ip n)))))))),fun _=>rfl,fun _=>rfl,fun _=>rfl⟩
  by_cases s:x=9
  · exact⟨_,_,_,_,_,_,_,_,_,_,_,_,_,_,_,_,_,et (iN a) (et (iN c) (et (iN d) (et (iN e) (et (iN i) (et (iN j) (et (iN k) (et (iN l) (et (iN n) (ip s))))))))),fun _=>rfl,fun _=>rfl,fun _=>rfl⟩
  by_cases f:x=10
  · exact⟨_,_,_,_,_,_,_,_,_,_,_,_,_,_,_,_,_,et (iN a) (et (iN c) (et (iN d) (et (iN e) (et (iN i) (et (iN j) (et (iN k) (et (iN l) (et (iN n) (et (iN s) (ip f)))))))))),fun _=>rfl,fun _=>rfl,fun _=>rfl⟩
  by_cases g:x=11
  · exact⟨_,_,_,_,_,_,_,_,_,_,_,_,_,_,_,_,_,et (iN a) (et (iN c) (et (iN d) (et (iN e) (et (iN i) (et (iN j) (et (iN k) (et (iN l) (et (iN n) (et (iN s) (et (iN f) (ip g))))))))))),fun _=>rfl,fun _=>rfl,fun h=>absurd g h⟩
  by_cases m:x=12
  · exact⟨_,_,_,_,_,_,_,_,_,_,_,_,_,_,_,_,_,et (iN a) (et (iN c) (et (iN d) (et (iN e) (et (iN i) (et (iN j) (et (iN k) (et (iN l) (et (iN n) (et (iN s) (et (iN f) (et (iN g) (ip m)))))))))))),fun _=>rfl,fun _=>rfl,fun _=>rfl⟩
  by_cases o:x=13
  · exact⟨_,_,_,_,_,_,_,_,_,_,_,_,_,_,_,_,_,et (iN a) (et (iN c) (et (iN d) (et (iN e) (et (iN i) (et (iN j) (et (iN k) (et (iN l) (et (iN n) (et (iN s) (et (iN f) (et (iN g) (et (iN m) (ip o))))))))))))),fun _=>rfl,fun _=>rfl,fun _=>rfl⟩
  by_cases t:x=14
  · exact⟨_,_,_,_,_,_,_,_,_,_,_,_,_,_,_,_,_,et (iN a) (et (iN c) (et (iN d) (et (iN e) (et (iN i) (et (iN j) (et (iN k) (et (iN l) (et (iN n) (et (iN s) (et (iN f) (et (iN g) (et (iN m) (et (iN o) (ip t)))))))))))))),fun _=>rfl,fun _=>rfl,fun _=>rfl⟩
  by_cases u:x=15
  · exact⟨_,_,_,_,_,_,_,_,_,_,_,_,_,_,_,_,_,et (iN a) (et (iN c) (et (iN d) (et (iN e) (et (iN i) (et (iN j) (et (iN k) (et (iN l) (et (iN n) (et (iN s) (et (iN f) (et (iN g) (et (iN m) (et (iN o) (et (iN t) (ip u))))))))))))))),fun _=>rfl,fun _=>rfl,fun _=>rfl⟩
  · exact⟨_,_,_,_,_,_,_,_,_,_,_,_,_,_,_,_,_,et (iN a) (et (iN c) (et (iN d) (et (iN e) (et (iN i) (et (iN j) (et (iN k) (et (iN l) (et (iN n) (et (iN s) (et (iN f) (et (iN g) (et (iN m) (et (iN o) (et (iN t) (iN u))))))))))))))),fun _=>rfl,fun _=>rfl,fun _=>rfl⟩
theorem EP (p:bW) (r:fT):∀ (q:List Int) (c d:Int) (f k2 g i j k l m n:Nat) (b:Bool) (o s:List UInt8) (lo:List aN) (lr:List aQ) (lw:List aM),
    (7 ∉ q→(bV p r q c d f k2 g i j k l m n b o s lo lr lw).2.2.2.2.2.2.2.2.2.2.2.2.2.2.1=lo)∧(3 ∉ q→(bV p r q c d f k2 g i j k l m n b o s lo lr lw).2.2.2.2.2.2.2.2.2.2.2.2.2.2.2.1=lr)∧(11 ∉ q→(bV p r q c d f k2 g i j k l m n b o s lo lr lw).2.2.2.2.2.2.2.2.2.2.2.2.2.2.2.2=lw)
  | [],c,d,f,k2,g,i,j,k,l,m,n,b,o,s,lo,lr,lw=>⟨fun _=>rfl,fun _=>rfl,fun _=>rfl⟩
  | x::q,c,d,f,k2,g,i,j,k,l,m,n,b,o,s,lo,lr,lw=>by
    obtain⟨z1',z2',k1',k2',k3',k4',k5',k6',k7',k8',k9',b',s1',s2',lo',lr',lw',e,t,u,v⟩:=Fu p r x q c d f k2 g i j k l m n b o s lo lr lw
    have ih:=EP p r q z1' z2' k1' k2' k3' k4' k5' k6' k7' k8' k9' b' s1' s2' lo' lr' lw'
    rw [e]
    exact⟨fun h=>(ih.1 fun a=>h (.tail _ a)).trans (t fun a=>h (a ▸ .head _)),fun h=>(ih.2.1 fun a=>h (.tail _ a)).trans (u fun a=>h (a ▸ .head _)),fun h=>(ih.2.2 fun a=>h (.tail _ a)).trans (v fun a=>h (a ▸ .head _))⟩
theorem Dz {x:bW} (h:qK x=true):x.aB.ls= []∧x.ah.ls= []∧x.ag.ls= []:=by
  unfold qK at h
  split at h
  · split at h
    · rename_i a
      exact⟨v4.1 e6,v4.1 e6,v4.1 e6⟩
    · cases h
  · cases h
theorem tT {x:bW} {r:Int} (h:kR x=r) (b:r=0):Gj x:=by
  subst b
  unfold kR p9 at h
  simp only [bnd] at h
  rcases el:oJ x.av with ⟨y,ok⟩
  rw [el] at h
  split at h
  case isFalse=>cases h
  split at h
  case isFalse=>cases h
  rename_i _ hfrom
  split at h
  case isFalse=>cases h
  split at h
  case isFalse=>cases h
  rename_i hb
  split at h
  case isFalse=>cases h
  rename_i hm
  have hc:=EP x y y.bX.ls x.dK x.fA x.aU x.ax x.aX x.eQ x.bG x.aF x.eG x.cZ x.xN x.fe x.cu.aJ x.cu.aR x.aB.ls x.ah.ls x.ag.ls
  have hl:=Dz hb
  simp only at hl
  have hf:=AX hm
  refine⟨?_, ?_, ?_,fun hk=> ?_,fun hk=> ?_⟩
  · by_cases a:(7:Int) ∈ y.bX.ls
    · have:=hf 7 a
      simp only [oD,p8,bnd,T3, ↓reduceIte] at this
      split at this
      · have:=(Dx (of_decide_eq_true this)).1; omega
      split at this
      · split at this
        · split at this
          · omega
          · cases this
        · cases this
      · split at this
        · omega
        · cases this
    · rw [← hc.1 a,hl.1]; exact Lp _
  · by_cases a:(11:Int) ∈ y.bX.ls
    · have:=hf 11 a
      simp only [oD,bnd,T3, ↓reduceIte] at this
      have:=of_decide_eq_true this
      unfold jc at this
      split at this
      · cases this
      split at this
      · cases this
      · omega
    · rw [← hc.2.2 a,hl.2.2]; exact Lp _
  · by_cases a:(3:Int) ∈ y.bX.ls
    · have:=hf 3 a
      simp only [oD,oW,bnd,T3, ↓reduceIte] at this
      split at this
      · split at this
        · cases this
        · exact⟨e6,AY this⟩
      · split at this
        · cases this
        · exact⟨e6,AY this⟩
    · rw [← hc.2.1 a,hl.2.1]; exact l9
  · rw [hk] at el
    have:y.mi=2:=by rw [← (Prod.mk.inj el).1]
    rw [this] at hfrom
    unfold ll at hfrom
    rw [if_neg f2,if_pos rfl] at hfrom
    split at hfrom
    · have:=of_decide_eq_true hfrom; omega
    · cases hfrom
  · rw [hk] at el
    have:y.mi=1:=by rw [← (Prod.mk.inj el).1]
    rw [this] at hfrom
    unfold ll at hfrom
    rw [if_pos rfl] at hfrom
    split at hfrom
    · have:=of_decide_eq_true hfrom; omega
    · cases hfrom
theorem zi {p t:bU} {x:bW} {m m':aD} (h:kL p x m=(t,m')) (hx:Gj x) (hq:jR x.aU) (ho:s0 m.aa.ag.ls≤1000):Tr 1 p m t m'∧(Mk m→Mk m'):=by
  unfold kL at h
  simp only [bnd] at h
  split at h
  · rename_i hk
    have hr:=AV (show iU p x m=(t,m') from h) (hx.tY hk)
    exact⟨hr.1,hr.2 hx.ops hq ho⟩
  split at h
  · have hr:=zh (show lq p x m=(t,m') from h)
    exact⟨hr.1,hr.2 hx.res⟩
  split at h
  · exact(oH (show lT p x m=(t,m') from h)).2
  split at h
  · obtain⟨rfl,rfl⟩:=Prod.mk.inj h
    exact⟨Fs p x m,id⟩
  have mp:∀ {a:aD},(p,a)=(t,m')→a.aa=m.aa→a.aC.ls=m.aC.ls→a.bT=m.bT→(Mk m→Mk a)→Tr 1 p m t m'∧(Mk m→Mk m'):=fun h b c d e=>by
    obtain⟨rfl,rfl⟩:=Prod.mk.inj h
    exact⟨(JY b (by unfold nA; rw [c]) d (s6 _).symm fun x hx=>by cases hx).one,e⟩
  split at h
  · split at h
    · exact mp h rfl rfl rfl (fun M=>⟨M.oI,M.sF,M.qz,M.uO,M.dec,M.pO,M.act,M.nK,M.mh,M.nV,M.nW,M.nX⟩)
    split at h
    · exact mp h rfl rfl rfl (fun M=>⟨M.oI,M.sF,M.qz,M.uO,M.dec,M.pO,M.act,M.nK,M.mh,M.nV,M.nW,M.nX⟩)
    split at h
    · exact mp h rfl rfl rfl (fun M=>⟨M.oI,M.sF,M.qz,M.uO,M.dec,M.pO,M.act,M.nK,M.mh,M.nV,M.nW,M.nX⟩)
    · exact mp h rfl rfl rfl (fun M=>⟨M.oI,M.sF,M.qz,M.uO,M.dec,M.pO,M.act,M.nK,M.mh,M.nV,M.nW,M.nX⟩)
  split at h
  · exact mp h rfl rfl rfl id
  split at h
  · exact mp h rfl rfl rfl id
  · exact mp h rfl rfl rfl id
theorem DC {x:bW} {r:Int} (h:kR x=r): ¬ (r=0)∨(s0 x.aB.ls≤24∧s0 x.ag.ls≤1000∧s0 x.ah.ls≤1000∧(¬ (x.av=1)∨11≤x.aI∧x.aI≤14)∧(¬ (x.av=9)∨1≤x.aI∧x.aI≤4)):=by
  by_cases a:r=0
  · have M:=tT h a
    refine .inr ⟨M.ops,M.own,M.res.1, ?_, ?_⟩
    · by_cases k:x.av=1
      · exact .inr (M.tY k)
      · exact .inl k
    · by_cases k:x.av=9
      · exact .inr (M.map k)
      · exact .inl k
  · exact .inl a
theorem Ku {j:Nat} {p t:bU} {m m':aD} (h:Tr j p m t m') (a:s0 m.aC.ls+s0 m.aa.ak.ls≤8):s0 m'.aa.ag.ls=s0 m.aa.ag.ls∧m'.aa.au=m.aa.au∧s0 m'.aC.ls+s0 m'.aa.ak.ls≤8∧s0 m'.aa.aK.ls≤s0 m.aa.aK.ls+j:=⟨by rw [h.own],h.sh,h.ad a,h.la⟩
theorem ym {p:aD} (h:Mk p):∀ x ∈ p.aa.ak.ls,s0 x.au.ls≤1000000:=fun x hx=>Nat.le_trans (h.dec x hx).2.2.2 f2
theorem yn {p:aD} (h:Mk p):∀ x ∈ p.aa.aK.ls,s0 x.ah.ls≤1000000∧∀ y ∈ x.ah.ls,s0 y.aj.ls≤1000000:=fun x hx=>⟨Nat.le_trans (h.pO x hx).2.2.1 f2,d9 (h.pO x hx).2.2⟩
theorem j0 {p:Prop}(h:p:=by first | assumption | exact(tT (by assumption) (by assumption)).res):p:=h
end Go.Proofs.YtbkagebjhbphaaaGreat
