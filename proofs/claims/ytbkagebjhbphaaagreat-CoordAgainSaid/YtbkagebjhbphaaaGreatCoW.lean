/-
  What a message does to the coordinator; which messages may come. Conditions: none beyond each law's own.
-/
import Derived.Test.YtbkagebjhbphaaaGreatCu
namespace Go.Proofs.YtbkagebjhbphaaaGreat
open Int renaming reduceEq→S2
open List renaming append_nil→s9,length→s2,length_eq_zero_iff→v9,length_replicate→H7,mem_cons→v2,mem_singleton→m4,replicate→s0
open Ll renaming mk→E4
set_option linter.unusedVariables false
set_option linter.unusedSimpArgs false
def sW (m:aB):aB:= { m with bI:=Int.toNat (IntKind.u64.wrap (((m.bI:Nat):Int)+1)) }
theorem DK {k:Nat} {m:aB} (h:Im k m):(sW m).bI=m.bI+1:=by
  have a:=h.1
  have b:=h.2.bg
  show Int.toNat (IntKind.u64.wrap (((m.bI:Nat):Int)+1))=_
  rw [IntWalk.u64_in _ e6]; omega
theorem Mk.bu {m:aB} (M:Mk m):Mk (sW m):=⟨M.mO,M.r9,M.qi,by unfold sW; dsimp only; exact mh _,M.dec,M.o6,M.act,M.l8,M.lq,M.mq,M.mo,M.mr⟩
theorem Tr.bu (p:bH) (m:aB):Tr 1 p m p (sW m):=⟨rfl,rfl,id,Nat.le_succ _,fun k _ hl h=>by
  have a:=h.2.more
  have e:=DK h
  refine⟨⟨hl, ?_⟩, [],(s9 _).symm, ?_⟩
  · show Iv (k+1) m.aa.ax (sW m).bI (nA m) (nD m); rw [e]; exact a.2.1
  · show lo m≤rY m.aa.ax (sW m).bI (nA m) (nD m); rw [e]; exact a.2.2.2⟩
def Bl (m:aB) (x:dE):aB:= { sW m with ak:=E4 (m.ak.ls++ [x]) }
theorem Jy (p:bH) (m:aB) {x:dE} (hx:x.aX=gP m) (hs:s2 m.ak.ls+s2 m.aa.aj.ls < 8):Tr 1 p m p (Bl m x):=⟨rfl,rfl,fun _=>by
    show s2 (m.ak.ls++ [x])+s2 m.aa.aj.ls≤8
    rw [List.length_append,List.length_singleton]; omega,Nat.le_succ _,fun k _ hl h=>by
  have a:=h.2.more
  have e:=DK h
  have b:nA (Bl m x)=nA m++ [m.aa.ax *4294967296+m.bI+1]:=by
    show List.map dE.aX (m.ak.ls++ [x])=_
    rw [List.map_append,List.map_cons,List.map_nil,hx,yP h]; rfl
  refine⟨⟨hl, ?_⟩, [],(s9 _).symm, ?_⟩
  · show Iv (k+1) m.aa.ax (sW m).bI (nA (Bl m x)) (nD m); rw [e,b]; exact a.1
  · show lo m≤rY m.aa.ax (sW m).bI (nA (Bl m x)) (nD m); rw [e,b]; exact a.2.2.1⟩
theorem xU (c:Int) (x:bQ) (m:aB) (n:Nat) (ps:List gq):∀ (l:List gq) (k:Nat) (o:List bQ), ∃ q,il c x m n ps l k o=o++q∧∀ z ∈ q,z.aH=3∧z.dW=gG (Bl m (dE.mk n c x.aU m.aa.aK (E4 x.aG.ls) (E4 ps) (E4 (s0 (s2 ps) false)) (E4 (s0 (s2 ps) (E4 []:Ll aY))) 0))∧z.bi=n
  | [],k,o=>⟨[],(s9 _).symm,fun z hz=>by cases hz⟩
  | y::l,k,o=>by
    simp only [il,bnd]
    split
    · exact xU c x m n ps l (k+1) o
    · obtain⟨q,e,hq⟩:=xU c x m n ps l (k+1) (o++ [bQ.mk 3 0 y.dV 0 0 0 0 0 n (gG (Bl m (dE.mk n c x.aU m.aa.aK (E4 x.aG.ls) (E4 ps) (E4 (s0 (s2 ps) false)) (E4 (s0 (s2 ps) (E4 []:Ll aY))) 0))) 0 m.aa.aK 0 0 0 false (bL.mk [] []) (E4 y.aG.ls) (E4 []) (E4 [])])
      refine⟨_::q,e.trans (by rw [List.append_assoc]; rfl),fun z hz=> ?_⟩
      rcases v2.1 hz with rfl | hz
      · exact⟨rfl,rfl,rfl⟩
      · exact hq z hz
theorem Dn {o:bC} (h:ll o=0):o.bU≤1000:=by
  have z:∀ {a:bC},a.bU=0→(a.aH=o.aH∧a.bY=o.bY∧a.aW=o.aW∧a.bK=o.bK∧a.bW=o.bW∧a.bU=o.bU)→o.bU≤1000:=fun c b=>by
    have:=b.2.2.2.2.2; omega
  unfold ll at h
  simp only [bnd] at h
  split at h
  · split at h
    · rename_i b; exact z rfl b
    · cases h
  split at h
  · split at h
    · rename_i b; exact z rfl b
    · cases h
  split at h
  · split at h
    · rename_i b; exact z rfl b
    · cases h
  split at h
  · split at h
    · unfold qC at h
      simp only [bnd] at h
      split at h
      · split at h
        · cases h
        · split at h
          · cases h
          · omega
      · rename_i b c; exact absurd h c
    · cases h
  split at h
  · split at h
    · rename_i b; exact z rfl b
    · cases h
  · cases h
theorem Bn:∀ {l:List bC} {r:Int},lp (jM l) (fun _=>0)=r→r=0→∀ o ∈ l,ll o=0
  | [],_,_,_,o,ho=>by cases ho
  | y::l,r,h,hr,o,ho=>by
    simp only [jM,bnd] at h
    by_cases e:ll y=0
    · rw [if_pos e] at h
      rcases v2.1 ho with rfl | ho
      · exact e
      · exact Bn h hr o ho
    · rw [if_neg e] at h
      simp only [lp] at h
      omega
theorem Cv {l:List bC} (h:nX l=0):s2 l≤4∧∀ o ∈ l,o.bU≤1000:=by
  unfold nX qD at h
  simp only [bnd] at h
  split at h
  · cases h
  split at h
  · cases h
  · exact⟨e6,fun o ho=>Dn (Bn rfl h o ho)⟩
theorem Cw {l:List bC} (h:nX l=0):∀ o ∈ l,o.bU≤1000:=(Cv h).2
theorem EP {a:List bv} {l:List bC} {r:List gq} (h:lQ a l=(r,0)):nX l=0:=by
  unfold lQ at h
  simp only [bnd] at h
  split at h
  · split at h
    · assumption
    · rename_i b; exact absurd (Prod.mk.inj h).2 b
  · rename_i b; exact absurd (Prod.mk.inj h).2 b
theorem BF {p t:bH} {c:Int} {x:bQ} {m m':aB} (h:dU p c x m=(t,m')):Tr 1 p m t m'∧((1≤c∧c≤4)→s2 x.aG.ls≤24→jZ x.aU→s2 m.aa.ag.ls≤1000→Mk m→Mk m'):=by
  unfold dU at h
  simp only [bnd] at h
  rcases ec:lQ m.aa.ag.ls x.aG.ls with ⟨ps,e⟩
  rw [ec] at h
  have no:∀ {d:bH} {a:aB},dB p c x.aU 2 [] (sW m)=(d,a)→(d,aB.mk (dC.mk a.aa.av a.aa.ax a.aa.bf a.aa.aK (E4 m.aa.ag.ls) (E4 m.aa.aj.ls) (E4 m.aa.aI.ls)) a.bI (E4 m.ak.ls) a.aR a.aN a.aO a.aP a.aM a.di a.cz a.cK a.cB a.cu)=(t,m')→Tr 1 p m t m'∧((1≤c∧c≤4)→s2 x.aG.ls≤24→jZ x.aU→s2 m.aa.ag.ls≤1000→Mk m→Mk m'):=fun {d a} e h=>by
    have ha:=l6 e
    obtain⟨rfl,f⟩:=Prod.mk.inj h
    obtain rfl:=nE f (by rw [ha.1]; rfl) (by rw [ha.1]; rfl) (by rw [ha.1]; rfl) (by rw [ha.2.1]; rfl)
    exact⟨(Tr.bu p m).trans (Tr.answer e),fun _ _ hq _ M=>ha.2.2.2.2 mD hq M.bu⟩
  rcases b:dB p c x.aU 2 [] (sW m) with ⟨d,a⟩
  have e':=b
  unfold sW at e'
  rw [e'] at h
  split at h
  · exact no b h
  split at h
  · exact no b h
  split at h
  · exact no b h
  split at h
  · rename_i j l _ i
    obtain⟨q,eq,hq⟩:=xU c x m (gP m) ps ps 0 p.bB.ls
    obtain⟨rfl,rfl⟩:=Prod.mk.inj h
    have hb:=Jy p m (x:=dE.mk (gP m) c x.aU m.aa.aK (E4 x.aG.ls) (E4 ps) (E4 (s0 (s2 ps) false)) (E4 (s0 (s2 ps) (E4 []:Ll aY))) 0) rfl e6
    refine⟨hb.tells eq hq fun k _ _=>List.mem_map.2 ⟨_,List.mem_append_right _ b1,rfl⟩,fun hc hl hr ho M=>⟨M.mO,M.r9,M.qi,by dsimp only; exact mh _,M.dec,M.o6,fun y hy=> ?_,M.l8,M.lq,M.mq,M.mo,M.mr⟩⟩
    rcases List.mem_append.1 hy with g | g
    · exact M.act y g
    · rw [m4.1 g]
      have h0':e=0:=i
      subst h0'
      exact⟨by dsimp only; unfold gP; exact mh _,hr,M.qi,H7,H7,Be ec,hc,⟨hl,Cw (EP ec)⟩,Bg ec ho hl,fun r hr=>by rw [(List.mem_replicate.1 hr).2]; exact mD⟩
  · exact no b h
theorem rq (p:bH) (c:Int) (x:bQ) (m:aB):∀ l:List fE,fu p c x m l= .inl ()∨∃ t z,fu p c x m l= .inr t∧t.bB.ls=p.bB.ls++ [z]∧z.aH=2
  | []=> .inl rfl
  | y::l=>by
    simp only [fu,bnd]
    split
    · split
      · split
        · exact .inr ⟨_,_,rfl,rfl,rfl⟩
        · exact rq p c x m l
      · exact rq p c x m l
    · exact rq p c x m l
theorem Tr.two {p t:bH} {m:aB} {z:bQ} (h:t.bB.ls=p.bB.ls++ [z]) (hz:z.aH=2):Tr 1 p m t m:=(Tr.of rfl rfl rfl h fun y hy=>by rw [m4.1 hy,hz]; decide).one
theorem IP (p:bH) (c:Int) (x:bQ) (m:aB):Tr 1 p m (lF p c x m) m:=by
  unfold lF
  rcases rq p c x m m.aa.aI.ls with h | ⟨t,z,h,ht,hz⟩
  · rw [nS h]; exact Tr.two rfl rfl
  · rw [jq h]; exact Tr.two ht hz
theorem Ah {p t:bH} {x:bQ} {m m':aB} (h:iP p x m=(t,m')) (hf:11≤x.aJ∧x.aJ≤14):Tr 1 p m t m'∧(s2 x.aG.ls≤24→jZ x.aU→s2 m.aa.ag.ls≤1000→Mk m→Mk m'):=by
  unfold iP at h
  simp only [bnd] at h
  have sa:∀ {a:bH},Tr 1 p m a m→(a,m)=(t,m')→Tr 1 p m t m'∧(s2 x.aG.ls≤24→jZ x.aU→s2 m.aa.ag.ls≤1000→Mk m→Mk m'):=fun T h=>by
    obtain⟨rfl,rfl⟩:=Prod.mk.inj h
    exact⟨T,fun _ _ _ M=>M⟩
  have sn:∀ y,(dA p y,m)=(t,m')→y.aH=2→Tr 1 p m t m'∧(s2 x.aG.ls≤24→jZ x.aU→s2 m.aa.ag.ls≤1000→Mk m→Mk m'):=fun y h hy=>by
    obtain⟨z,e,hk,_⟩:=Ab p y
    exact sa (Tr.two e (hk.trans hy)) h
  have be:((dU p (x.aJ - 10) x m).1,(dU p (x.aJ - 10) x m).2)=(t,m')→Tr 1 p m t m'∧(s2 x.aG.ls≤24→jZ x.aU→s2 m.aa.ag.ls≤1000→Mk m→Mk m'):=fun h=>by
    have hb:=BF (show dU p (x.aJ - 10) x m=(t,m') from h)
    exact⟨hb.1,hb.2 e6⟩
  split at h
  · split at h
    · exact sa (Tr.same p m).one h
    split at h
    · split at h
      · split at h
        · split at h
          · exact sn _ h rfl
          · exact sa (Tr.same p m).one h
        · exact be h
      · exact be h
    split at h
    · split at h
      · split at h
        · split at h
          · exact sn _ h rfl
          · exact sa (Tr.same p m).one h
        · exact be h
      · exact be h
    split at h
    · split at h
      · split at h
        · split at h
          · exact sn _ h rfl
          · exact sa (Tr.same p m).one h
        · exact be h
      · exact be h
    · split at h
      · split at h
        · split at h
          · exact sn _ h rfl
          · exact sa (Tr.same p m).one h
        · exact be h
      · exact be h
  · exact sa (IP _ _ _ _) h
structure Dp (x:bQ):Prop where
  ops:s2 x.aG.ls≤24
  own:s2 x.ag.ls≤1000
  res:mR x.ah.ls
  rZ:x.aH=1→11≤x.aJ∧x.aJ≤14
  map:x.aH=9→1≤x.aJ∧x.aJ≤4
theorem Cx {x:bQ}:∀ {l:List Int},lp (jX x l) (fun _=>true)=true→∀ f ∈ l,oQ x f=true
  | [],_,f,hf=>by cases hf
  | y::l,h,f,hf=>by
    simp only [jX,bnd] at h
    by_cases e:oQ x y=true
    · rw [if_pos e] at h
      rcases v2.1 hf with rfl | hf
      · exact e
      · exact Cx h f hf
    · rw [if_neg e] at h; cases h
theorem Ai:∀ {l:List aY},lp (gN l) (fun _=>true)=true→∀ x ∈ l,s2 x.au.ls≤1000
  | [],_,x,hx=>by cases hx
  | y::l,h,x,hx=>by
    simp only [gN] at h
    split at h
    · cases h
    split at h
    · cases h
    · rename_i hp
      rcases e:gZ y.au.ls with u | b
      · rw [e] at h
        rcases v2.1 hx with rfl | hx
        · omega
        · exact Ai h x hx
      · rw [e] at h
        simp only [sI,lp] at h
        subst h
        exact absurd e (L1f _)
where L1f:∀ l:List aL,gZ l≠ .inr true
  | []=>by intro h; cases h
  | y::l=>by
    simp only [gZ,bnd]
    split
    · split
      · intro h; cases h
      · exact L1f l
    · intro h; cases h
theorem D7 (p:bQ) (r:fZ) (x:Int) (q:List Int) (v w:Int) (y k2 z A B C D E F:Nat) (b:Bool) (G H:List UInt8) (lo:List bC) (lr:List aY) (lw:List bv):∃ z1' z2' k1' k2' k3' k4' k5' k6' k7' k8' k9' b' s1' s2' lo' lr' lw',cO p r (x::q) v w y k2 z A B C D E F b G H lo lr lw=cO p r q z1' z2' k1' k2' k3' k4' k5' k6' k7' k8' k9' b' s1' s2' lo' lr' lw'∧(x≠7→lo'=lo)∧(x≠3→lr'=lr)∧(x≠11→lw'=lw):=by
  by_cases a:x=0
  · exact⟨_,_,_,_,_,_,_,_,_,_,_,_,_,_,_,_,_,ip a,fun _=>rfl,fun _=>rfl,fun _=>rfl⟩
  by_cases c:x=1
  · exact⟨_,_,_,_,_,_,_,_,_,_,_,_,_,_,_,_,_,et (iN a) (ip c),fun _=>rfl,fun _=>rfl,fun _=>rfl⟩
  by_cases d:x=2
  · exact⟨_,_,_,_,_,_,_,_,_,_,_,_,_,_,_,_,_,et (iN a) (et (iN c) (ip d)),fun _=>rfl,fun _=>rfl,fun _=>rfl⟩
  by_cases e:x=3
  · exact⟨_,_,_,_,_,_,_,_,_,_,_,_,_,_,_,_,_,et (iN a) (et (iN c) (et (iN d) (ip e))),fun _=>rfl,fun h=>absurd e h,fun _=>rfl⟩
  by_cases i:x=4
  · exact⟨_,_,_,_,_,_,_,_,_,_,_,_,_,_,_,_,_,et (iN a) (et (iN c) (et (iN d) (et (iN e) (ip i)))),fun _=>rfl,fun _=>rfl,fun _=>rfl⟩
  by_cases j:x=5
  · exact⟨_,_,_,_,_,_,_,_,_,_,_,_,_,_,_,_,_,et (iN a) (et (iN c) (et (iN d) (et (iN e) (et (iN i) (ip j))))),fun _=>rfl,fun _=>rfl,fun _=>rfl⟩
  by_cases k:x=6
  · exact⟨_,_,_,_,_,_,_,_,_,_,_,_,_,_,_,_,_,et (iN a) (et (iN c) (et (iN d) (et (iN e) (et (iN i) (et (iN j) (ip k)))))),fun _=>rfl,fun _=>rfl,fun _=>rfl⟩
  by_cases l:x=7
  · exact⟨_,_,_,_,_,_,_,_,_,_,_,_,_,_,_,_,_,et (iN a) (et (iN c) (et (iN d) (et (iN e) (et (iN i) (et (iN j) (et (iN k) (ip l))))))),fun h=>absurd l h,fun _=>rfl,fun _=>rfl⟩
  by_cases n:x=8
  · exact⟨_,_,_,_,_,_,_,_,_,_,_,_,_,_,_,_,_,et (iN a) (et (iN c) (et (iN d) (et (iN e) (et (iN i) (et (iN j) (et (iN k) (et (iN l) (ip n)))))))),fun _=>rfl,fun _=>rfl,fun _=>rfl⟩
  by_cases s:x=9
  · exact⟨_,_,_,_,_,_,_,_,_,_,_,_,_,_,_,_,_,et (iN a) (et (iN c) (et (iN d) (et (iN e) (et (iN i) (et (iN j) (et (iN k) (et (iN l) (et (iN n) (ip s))))))))),fun _=>rfl,fun _=>rfl,fun _=>rfl⟩
  by_cases f:x=10
  · exact⟨_,_,_,_,_,_,_,_,_,_,_,_,_,_,_,_,_,et (iN a) (et (iN c) (et (iN d) (et (iN e) (et (iN i) (et (iN j) (et (iN k) (et (iN l) (et (iN n) (et (iN s) (ip f)))))))))),fun _=>rfl,fun _=>rfl,fun _=>rfl⟩
  by_cases g:x=11
  · exact⟨_,_,_,_,_,_,_,_,_,_,_,_,_,_,_,_,_,et (iN a) (et (iN c) (et (iN d) (et (iN e) (et (iN i) (et (iN j) (et (iN k) (et (iN l) (et (iN n) (et (iN s) (et (iN f) (ip g))))))))))),fun _=>rfl,fun _=>rfl,fun h=>absurd g h⟩
  by_cases m:x=12
  · exact⟨_,_,_,_,_,_,_,_,_,_,_,_,_,_,_,_,_,et (iN a) (et (iN c) (et (iN d) (et (iN e) (et (iN i) (et (iN j) (et (iN k) (et (iN l) (et (iN n) (et (iN s) (et (iN f) (et (iN g) (ip m)))))))))))),fun _=>rfl,fun _=>rfl,fun _=>rfl⟩
  by_cases o:x=13
  · exact⟨_,_,_,_,_,_,_,_,_,_,_,_,_,_,_,_,_,et (iN a) (et (iN c) (et (iN d) (et (iN e) (et (iN i) (et (iN j) (et (iN k) (et (iN l) (et (iN n) (et (iN s) (et (iN f) (et (iN g) (et (iN m) (ip o))))))))))))),fun _=>rfl,fun _=>rfl,fun _=>rfl⟩
  by_cases t:x=14
  · exact⟨_,_,_,_,_,_,_,_,_,_,_,_,_,_,_,_,_,et (iN a) (et (iN c) (et (iN d) (et (iN e) (et (iN i) (et (iN j) (et (iN k) (et (iN l) (et (iN n) (et (iN s) (et (iN f) (et (iN g) (et (iN m) (et (iN o) (ip t)))))))))))))),fun _=>rfl,fun _=>rfl,fun _=>rfl⟩
  by_cases u:x=15
  · exact⟨_,_,_,_,_,_,_,_,_,_,_,_,_,_,_,_,_,et (iN a) (et (iN c) (et (iN d) (et (iN e) (et (iN i) (et (iN j) (et (iN k) (et (iN l) (et (iN n) (et (iN s) (et (iN f) (et (iN g) (et (iN m) (et (iN o) (et (iN t) (ip u))))))))))))))),fun _=>rfl,fun _=>rfl,fun _=>rfl⟩
  · exact⟨_,_,_,_,_,_,_,_,_,_,_,_,_,_,_,_,_,et (iN a) (et (iN c) (et (iN d) (et (iN e) (et (iN i) (et (iN j) (et (iN k) (et (iN l) (et (iN n) (et (iN s) (et (iN f) (et (iN g) (et (iN m) (et (iN o) (et (iN t) (iN u))))))))))))))),fun _=>rfl,fun _=>rfl,fun _=>rfl⟩
theorem DL (p:bQ) (r:fZ):∀ (q:List Int) (c d:Int) (f k2 g i j k l m n:Nat) (b:Bool) (o s:List UInt8) (lo:List bC) (lr:List aY) (lw:List bv),
    (7 ∉ q→(cO p r q c d f k2 g i j k l m n b o s lo lr lw).2.2.2.2.2.2.2.2.2.2.2.2.2.2.1=lo)∧(3 ∉ q→(cO p r q c d f k2 g i j k l m n b o s lo lr lw).2.2.2.2.2.2.2.2.2.2.2.2.2.2.2.1=lr)∧(11 ∉ q→(cO p r q c d f k2 g i j k l m n b o s lo lr lw).2.2.2.2.2.2.2.2.2.2.2.2.2.2.2.2=lw)
  | [],c,d,f,k2,g,i,j,k,l,m,n,b,o,s,lo,lr,lw=>⟨fun _=>rfl,fun _=>rfl,fun _=>rfl⟩
  | x::q,c,d,f,k2,g,i,j,k,l,m,n,b,o,s,lo,lr,lw=>by
    obtain⟨z1',z2',k1',k2',k3',k4',k5',k6',k7',k8',k9',b',s1',s2',lo',lr',lw',e,t,u,v⟩:=D7 p r x q c d f k2 g i j k l m n b o s lo lr lw
    have ih:=DL p r q z1' z2' k1' k2' k3' k4' k5' k6' k7' k8' k9' b' s1' s2' lo' lr' lw'
    rw [e]
    exact⟨fun h=>(ih.1 fun a=>h (.tail _ a)).trans (t fun a=>h (a ▸ .head _)),fun h=>(ih.2.1 fun a=>h (.tail _ a)).trans (u fun a=>h (a ▸ .head _)),fun h=>(ih.2.2 fun a=>h (.tail _ a)).trans (v fun a=>h (a ▸ .head _))⟩
theorem Cy {x:bQ} (h:qG x=true):x.aG.ls= []∧x.ah.ls= []∧x.ag.ls= []:=by
  unfold qG at h
  split at h
  · split at h
    · rename_i a
      exact⟨v9.1 e6,v9.1 e6,v9.1 e6⟩
    · cases h
  · cases h
theorem qW {x:bQ} {r:Int} (h:mf x=r) (b:r=0):Dp x:=by
  subst b
  unfold mf rf at h
  simp only [bnd] at h
  rcases el:pQ x.aH with ⟨y,ok⟩
  rw [el] at h
  split at h
  case isFalse=>cases h
  split at h
  case isFalse=>cases h
  rename_i _ hfrom
  split at h
  case isFalse=>cases h
  split at h
  case isFalse=>cases h
  rename_i hb
  split at h
  case isFalse=>cases h
  rename_i hm
  have hc:=DL x y y.dn.ls x.dz x.eu x.aU x.ax x.bi x.dW x.bf x.aK x.dI x.cZ x.xN x.d9 x.bV.bK x.bV.bW x.aG.ls x.ah.ls x.ag.ls
  have hl:=Cy hb
  simp only at hl
  have hf:=Cx hm
  refine⟨?_, ?_, ?_,fun hk=> ?_,fun hk=> ?_⟩
  · by_cases a:(7:Int) ∈ y.dn.ls
    · have:=hf 7 a
      simp only [oQ,q8,bnd,S2, ↓reduceIte] at this
      split at this
      · have:=(Cv (of_decide_eq_true this)).1; omega
      split at this
      · split at this
        · split at this
          · omega
          · cases this
        · cases this
      · split at this
        · omega
        · cases this
    · rw [← hc.1 a,hl.1]; exact JO _
  · by_cases a:(11:Int) ∈ y.dn.ls
    · have:=hf 11 a
      simp only [oQ,bnd,S2, ↓reduceIte] at this
      have:=of_decide_eq_true this
      unfold kM at this
      split at this
      · cases this
      split at this
      · cases this
      · omega
    · rw [← hc.2.2 a,hl.2.2]; exact JO _
  · by_cases a:(3:Int) ∈ y.dn.ls
    · have:=hf 3 a
      simp only [oQ,oK,bnd,S2, ↓reduceIte] at this
      split at this
      · split at this
        · cases this
        · exact⟨e6,Ai this⟩
      · split at this
        · cases this
        · exact⟨e6,Ai this⟩
    · rw [← hc.2.1 a,hl.2.1]; exact mD
  · rw [hk] at el
    have:y.lX=2:=by rw [← (Prod.mk.inj el).1]
    rw [this] at hfrom
    unfold lm at hfrom
    rw [if_neg f3,if_pos rfl] at hfrom
    split at hfrom
    · have:=of_decide_eq_true hfrom; omega
    · cases hfrom
  · rw [hk] at el
    have:y.lX=1:=by rw [← (Prod.mk.inj el).1]
    rw [this] at hfrom
    unfold lm at hfrom
    rw [if_pos rfl] at hfrom
    split at hfrom
    · have:=of_decide_eq_true hfrom; omega
    · cases hfrom
theorem yR {p t:bH} {x:bQ} {m m':aB} (h:iG p x m=(t,m')) (hx:Dp x) (hq:jZ x.aU) (ho:s2 m.aa.ag.ls≤1000):Tr 1 p m t m'∧(Mk m→Mk m'):=by
  unfold iG at h
  simp only [bnd] at h
  split at h
  · rename_i hk
    have hr:=Ah (show iP p x m=(t,m') from h) (hx.rZ hk)
    exact⟨hr.1,hr.2 hx.ops hq ho⟩
  split at h
  · have hr:=yQ (show jN p x m=(t,m') from h)
    exact⟨hr.1,hr.2 hx.res⟩
  split at h
  · exact(om (show jY p x m=(t,m') from h)).2
  split at h
  · obtain⟨rfl,rfl⟩:=Prod.mk.inj h
    exact⟨D6 p x m,id⟩
  have mp:∀ {a:aB},(p,a)=(t,m')→a.aa=m.aa→a.ak.ls=m.ak.ls→a.bI=m.bI→(Mk m→Mk a)→Tr 1 p m t m'∧(Mk m→Mk m'):=fun h b c d e=>by
    obtain⟨rfl,rfl⟩:=Prod.mk.inj h
    exact⟨(Tr.of b (by unfold nA; rw [c]) d (s9 _).symm fun x hx=>by cases hx).one,e⟩
  split at h
  · split at h
    · exact mp h rfl rfl rfl (fun M=>⟨M.mO,M.r9,M.qi,M.uw,M.dec,M.o6,M.act,M.l8,M.lq,M.mq,M.mo,M.mr⟩)
    split at h
    · exact mp h rfl rfl rfl (fun M=>⟨M.mO,M.r9,M.qi,M.uw,M.dec,M.o6,M.act,M.l8,M.lq,M.mq,M.mo,M.mr⟩)
    split at h
    · exact mp h rfl rfl rfl (fun M=>⟨M.mO,M.r9,M.qi,M.uw,M.dec,M.o6,M.act,M.l8,M.lq,M.mq,M.mo,M.mr⟩)
    · exact mp h rfl rfl rfl (fun M=>⟨M.mO,M.r9,M.qi,M.uw,M.dec,M.o6,M.act,M.l8,M.lq,M.mq,M.mo,M.mr⟩)
  split at h
  · exact mp h rfl rfl rfl id
  split at h
  · exact mp h rfl rfl rfl id
  · exact mp h rfl rfl rfl id
theorem Cz {x:bQ} {r:Int} (h:mf x=r): ¬ (r=0)∨(s2 x.aG.ls≤24∧s2 x.ag.ls≤1000∧s2 x.ah.ls≤1000∧(¬ (x.aH=1)∨11≤x.aJ∧x.aJ≤14)∧(¬ (x.aH=9)∨1≤x.aJ∧x.aJ≤4)):=by
  by_cases a:r=0
  · have M:=qW h a
    refine .inr ⟨M.ops,M.own,M.res.1, ?_, ?_⟩
    · by_cases k:x.aH=1
      · exact .inr (M.rZ k)
      · exact .inl k
    · by_cases k:x.aH=9
      · exact .inr (M.map k)
      · exact .inl k
  · exact .inl a
theorem Iq {j:Nat} {p t:bH} {m m':aB} (h:Tr j p m t m') (a:s2 m.ak.ls+s2 m.aa.aj.ls≤8):s2 m'.aa.ag.ls=s2 m.aa.ag.ls∧m'.aa.av=m.aa.av∧s2 m'.ak.ls+s2 m'.aa.aj.ls≤8∧s2 m'.aa.aI.ls≤s2 m.aa.aI.ls+j:=⟨by rw [h.own],h.sh,h.ad a,h.la⟩
theorem Aj {p:aB} (h:Mk p):∀ x ∈ p.aa.aj.ls,s2 x.av.ls≤1000000:=fun x hx=>Nat.le_trans (h.dec x hx).2.2.2 f3
theorem Al {p:aB} (h:Mk p):∀ x ∈ p.aa.aI.ls,s2 x.ah.ls≤1000000∧∀ y ∈ x.ah.ls,s2 y.au.ls≤1000000:=fun x hx=>⟨Nat.le_trans (h.o6 x hx).2.2.1 f3,dG (h.o6 x hx).2.2⟩
theorem j1 {p:Prop}(h:p:=by first | assumption | exact(qW (by assumption) (by assumption)).res):p:=h
end Go.Proofs.YtbkagebjhbphaaaGreat
