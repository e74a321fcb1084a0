/-
  What a message does to the coordinator; which messages may come. Conditions: none beyond each law's own.
-/
import Derived.Test.YtbkagebjhbphaaaGreatCu
namespace Go.Proofs.YtbkagebjhbphaaaGreat
open Int renaming reduceEq→R6
open List renaming append_nil→s9,length→s2,length_eq_zero_iff→v9,length_replicate→H4,mem_cons→v2,mem_singleton→m4,replicate→s0
open Ll renaming mk→E4
set_option linter.unusedVariables false
set_option linter.unusedSimpArgs false
def uF (m:aB):aB:= { m with bH:=Int.toNat (IntKind.u64.wrap (((m.bH:Nat):Int)+1)) }
theorem CW {k:Nat} {m:aB} (h:Im k m):(uF m).bH=m.bH+1:=by
  have a:=h.1
  have b:=h.2.bg
  show Int.toNat (IntKind.u64.wrap (((m.bH:Nat):Int)+1))=_
  rw [IntWalk.u64_in _ e6]; omega
theorem Mk.bu {m:aB} (M:Mk m):Mk (uF m):=⟨M.nT,M.rF,M.pQ,by unfold uF; dsimp only; exact l7 _,M.dec,M.oO,M.act,M.lX,M.kZ,M.ma,M.mg,M.mf⟩
theorem Tr.bu (p:bO) (m:aB):Tr 1 p m p (uF m):=⟨rfl,rfl,id,Nat.le_succ _,fun k _ hl h=>by
  have a:=h.2.more
  have e:=CW h
  refine⟨⟨hl, ?_⟩, [],(s9 _).symm, ?_⟩
  · show Iv (k+1) m.aa.ax (uF m).bH (nA m) (nD m); rw [e]; exact a.2.1
  · show lo m≤rE m.aa.ax (uF m).bH (nA m) (nD m); rw [e]; exact a.2.2.2⟩
def Aw (m:aB) (x:dH):aB:= { uF m with aA:=E4 (m.aA.ls++ [x]) }
theorem Iz (p:bO) (m:aB) {x:dH} (hx:x.bq=gX m) (hs:s2 m.aA.ls+s2 m.aa.aj.ls < 8):Tr 1 p m p (Aw m x):=⟨rfl,rfl,fun _=>by
    show s2 (m.aA.ls++ [x])+s2 m.aa.aj.ls≤8
    rw [List.length_append,List.length_singleton]; omega,Nat.le_succ _,fun k _ hl h=>by
  have a:=h.2.more
  have e:=CW h
  have b:nA (Aw m x)=nA m++ [m.aa.ax *4294967296+m.bH+1]:=by
    show List.map dH.bq (m.aA.ls++ [x])=_
    rw [List.map_append,List.map_cons,List.map_nil,hx,yh h]; rfl
  refine⟨⟨hl, ?_⟩, [],(s9 _).symm, ?_⟩
  · show Iv (k+1) m.aa.ax (uF m).bH (nA (Aw m x)) (nD m); rw [e,b]; exact a.1
  · show lo m≤rE m.aa.ax (uF m).bH (nA (Aw m x)) (nD m); rw [e,b]; exact a.2.2.1⟩
theorem zD (c:Int) (x:bQ) (m:aB) (n:Nat) (ps:List fV):∀ (l:List fV) (k:Nat) (o:List bQ), ∃ q,ig c x m n ps l k o=o++q∧∀ z ∈ q,z.aM=3∧z.di=gy (Aw m (dH.mk n c x.aY m.aa.aI (E4 x.aD.ls) (E4 ps) (E4 (s0 (s2 ps) false)) (E4 (s0 (s2 ps) (E4 []:Ll aX))) 0))∧z.bf=n
  | [],k,o=>⟨[],(s9 _).symm,fun z hz=>by cases hz⟩
  | y::l,k,o=>by
    simp only [ig,bnd]
    split
    · exact zD c x m n ps l (k+1) o
    · obtain⟨q,e,hq⟩:=zD c x m n ps l (k+1) (o++ [bQ.mk 3 0 y.dU 0 0 0 0 0 n (gy (Aw m (dH.mk n c x.aY m.aa.aI (E4 x.aD.ls) (E4 ps) (E4 (s0 (s2 ps) false)) (E4 (s0 (s2 ps) (E4 []:Ll aX))) 0))) 0 m.aa.aI 0 0 0 false (bK.mk [] []) (E4 y.aD.ls) (E4 []) (E4 [])])
      refine⟨_::q,e.trans (by rw [List.append_assoc]; rfl),fun z hz=> ?_⟩
      rcases v2.1 hz with rfl | hz
      · exact⟨rfl,rfl,rfl⟩
      · exact hq z hz
theorem Cw {o:bC} (h:kW o=0):o.bT≤1000:=by
  have z:∀ {a:bC},a.bT=0→(a.aM=o.aM∧a.bY=o.bY∧a.aU=o.aU∧a.bJ=o.bJ∧a.bX=o.bX∧a.bT=o.bT)→o.bT≤1000:=fun c b=>by
    have:=b.2.2.2.2.2; omega
  unfold kW at h
  simp only [bnd] at h
  split at h
  · split at h
    · rename_i b; exact z rfl b
    · cases h
  split at h
  · split at h
    · rename_i b; exact z rfl b
    · cases h
  split at h
  · split at h
    · rename_i b; exact z rfl b
    · cases h
  split at h
  · split at h
    · unfold qc at h
      simp only [bnd] at h
      split at h
      · split at h
        · cases h
        · split at h
          · cases h
          · omega
      · rename_i b c; exact absurd h c
    · cases h
  split at h
  · split at h
    · rename_i b; exact z rfl b
    · cases h
  · cases h
theorem Ay:∀ {l:List bC} {r:Int},lp (jE l) (fun _=>0)=r→r=0→∀ o ∈ l,kW o=0
  | [],_,_,_,o,ho=>by cases ho
  | y::l,r,h,hr,o,ho=>by
    simp only [jE,bnd] at h
    by_cases e:kW y=0
    · rw [if_pos e] at h
      rcases v2.1 ho with rfl | ho
      · exact e
      · exact Ay h hr o ho
    · rw [if_neg e] at h
      simp only [lp] at h
      omega
theorem BN {l:List bC} (h:nN l=0):s2 l≤4∧∀ o ∈ l,o.bT≤1000:=by
  unfold nN qf at h
  simp only [bnd] at h
  split at h
  · cases h
  split at h
  · cases h
  · exact⟨e6,fun o ho=>Cw (Ay rfl h o ho)⟩
theorem BO {l:List bC} (h:nN l=0):∀ o ∈ l,o.bT≤1000:=(BN h).2
theorem Ed {a:List bv} {l:List bC} {r:List fV} (h:l9 a l=(r,0)):nN l=0:=by
  unfold l9 at h
  simp only [bnd] at h
  split at h
  · split at h
    · assumption
    · rename_i b; exact absurd (Prod.mk.inj h).2 b
  · rename_i b; exact absurd (Prod.mk.inj h).2 b
theorem Ba {p t:bO} {c:Int} {x:bQ} {m m':aB} (h:eO p c x m=(t,m')):Tr 1 p m t m'∧((1≤c∧c≤4)→s2 x.aD.ls≤24→jy x.aY→s2 m.aa.ag.ls≤1000→Mk m→Mk m'):=by
  unfold eO at h
  simp only [bnd] at h
  rcases ec:l9 m.aa.ag.ls x.aD.ls with ⟨ps,e⟩
  rw [ec] at h
  have no:∀ {d:bO} {a:aB},dX p c x.aY 2 [] (uF m)=(d,a)→(d,aB.mk (dA.mk a.aa.ak a.aa.ax a.aa.bi a.aa.aI (E4 m.aa.ag.ls) (E4 m.aa.aj.ls) (E4 m.aa.aF.ls)) a.bH (E4 m.aA.ls) a.aQ a.aO a.aL a.aN a.aK a.df a.cu a.cz a.cB a.cK)=(t,m')→Tr 1 p m t m'∧((1≤c∧c≤4)→s2 x.aD.ls≤24→jy x.aY→s2 m.aa.ag.ls≤1000→Mk m→Mk m'):=fun {d a} e h=>by
    have ha:=qH e
    obtain⟨rfl,f⟩:=Prod.mk.inj h
    obtain rfl:=sK f (by rw [ha.1]; rfl) (by rw [ha.1]; rfl) (by rw [ha.1]; rfl) (by rw [ha.2.1]; rfl)
    exact⟨(Tr.bu p m).trans (Tr.answer e),fun _ _ hq _ M=>ha.2.2.2.2 mh hq M.bu⟩
  rcases b:dX p c x.aY 2 [] (uF m) with ⟨d,a⟩
  have e':=b
  unfold uF at e'
  rw [e'] at h
  split at h
  · exact no b h
  split at h
  · exact no b h
  split at h
  · exact no b h
  split at h
  · rename_i j l _ i
    obtain⟨q,eq,hq⟩:=zD c x m (gX m) ps ps 0 p.bE.ls
    obtain⟨rfl,rfl⟩:=Prod.mk.inj h
    have hb:=Iz p m (x:=dH.mk (gX m) c x.aY m.aa.aI (E4 x.aD.ls) (E4 ps) (E4 (s0 (s2 ps) false)) (E4 (s0 (s2 ps) (E4 []:Ll aX))) 0) rfl e6
    refine⟨hb.tells eq hq fun k _ _=>List.mem_map.2 ⟨_,List.mem_append_right _ b1,rfl⟩,fun hc hl hr ho M=>⟨M.nT,M.rF,M.pQ,by dsimp only; exact l7 _,M.dec,M.oO,fun y hy=> ?_,M.lX,M.kZ,M.ma,M.mg,M.mf⟩⟩
    rcases List.mem_append.1 hy with g | g
    · exact M.act y g
    · rw [m4.1 g]
      have h0':e=0:=i
      subst h0'
      exact⟨by dsimp only; unfold gX; exact l7 _,hr,M.pQ,H4,H4,Am ec,hc,⟨hl,BO (Ed ec)⟩,Ap ec ho hl,fun r hr=>by rw [(List.mem_replicate.1 hr).2]; exact mh⟩
  · exact no b h
theorem qO (p:bO) (c:Int) (x:bQ) (m:aB):∀ l:List fF,eX p c x m l= .inl ()∨∃ t z,eX p c x m l= .inr t∧t.bE.ls=p.bE.ls++ [z]∧z.aM=2
  | []=> .inl rfl
  | y::l=>by
    simp only [eX,bnd]
    split
    · split
      · split
        · exact .inr ⟨_,_,rfl,rfl,rfl⟩
        · exact qO p c x m l
      · exact qO p c x m l
    · exact qO p c x m l
theorem Tr.two {p t:bO} {m:aB} {z:bQ} (h:t.bE.ls=p.bE.ls++ [z]) (hz:z.aM=2):Tr 1 p m t m:=(GH rfl rfl rfl h fun y hy=>by rw [m4.1 hy,hz]; decide).one
theorem He (p:bO) (c:Int) (x:bQ) (m:aB):Tr 1 p m (lq p c x m) m:=by
  unfold lq
  rcases qO p c x m m.aa.aF.ls with h | ⟨t,z,h,ht,hz⟩
  · rw [nI h]; exact Tr.two rfl rfl
  · rw [iY h]; exact Tr.two ht hz
theorem zF {p t:bO} {x:bQ} {m m':aB} (h:kr p x m=(t,m')) (hf:11≤x.aP∧x.aP≤14):Tr 1 p m t m'∧(s2 x.aD.ls≤24→jy x.aY→s2 m.aa.ag.ls≤1000→Mk m→Mk m'):=by
  unfold kr at h
  simp only [bnd] at h
  have sa:∀ {a:bO},Tr 1 p m a m→(a,m)=(t,m')→Tr 1 p m t m'∧(s2 x.aD.ls≤24→jy x.aY→s2 m.aa.ag.ls≤1000→Mk m→Mk m'):=fun T h=>by
    obtain⟨rfl,rfl⟩:=Prod.mk.inj h
    exact⟨T,fun _ _ _ M=>M⟩
  have sn:∀ y,(dB p y,m)=(t,m')→y.aM=2→Tr 1 p m t m'∧(s2 x.aD.ls≤24→jy x.aY→s2 m.aa.ag.ls≤1000→Mk m→Mk m'):=fun y h hy=>by
    obtain⟨z,e,hk,_⟩:=zz p y
    exact sa (Tr.two e (hk.trans hy)) h
  have be:((eO p (x.aP - 10) x m).1,(eO p (x.aP - 10) x m).2)=(t,m')→Tr 1 p m t m'∧(s2 x.aD.ls≤24→jy x.aY→s2 m.aa.ag.ls≤1000→Mk m→Mk m'):=fun h=>by
    have hb:=Ba (show eO p (x.aP - 10) x m=(t,m') from h)
    exact⟨hb.1,hb.2 e6⟩
  split at h
  · split at h
    · exact sa (Tr.same p m).one h
    split at h
    · split at h
      · split at h
        · split at h
          · exact sn _ h rfl
          · exact sa (Tr.same p m).one h
        · exact be h
      · exact be h
    split at h
    · split at h
      · split at h
        · split at h
          · exact sn _ h rfl
          · exact sa (Tr.same p m).one h
        · exact be h
      · exact be h
    split at h
    · split at h
      · split at h
        · split at h
          · exact sn _ h rfl
          · exact sa (Tr.same p m).one h
        · exact be h
      · exact be h
    · split at h
      · split at h
        · split at h
          · exact sn _ h rfl
          · exact sa (Tr.same p m).one h
        · exact be h
      · exact be h
  · exact sa (He _ _ _ _) h
structure Ee (x:bQ):Prop where
  ops:s2 x.aD.ls≤24
  own:s2 x.ag.ls≤1000
  res:mJ x.ai.ls
  sw:x.aM=1→11≤x.aP∧x.aP≤14
  map:x.aM=9→1≤x.aP∧x.aP≤4
theorem BP {x:bQ}:∀ {l:List Int},lp (jS x l) (fun _=>true)=true→∀ f ∈ l,oH x f=true
  | [],_,f,hf=>by cases hf
  | y::l,h,f,hf=>by
    simp only [jS,bnd] at h
    by_cases e:oH x y=true
    · rw [if_pos e] at h
      rcases v2.1 hf with rfl | hf
      · exact e
      · exact BP h f hf
    · rw [if_neg e] at h; cases h
theorem zG:∀ {l:List aX},lp (gK l) (fun _=>true)=true→∀ x ∈ l,s2 x.au.ls≤1000
  | [],_,x,hx=>by cases hx
  | y::l,h,x,hx=>by
    simp only [gK] at h
    split at h
    · cases h
    split at h
    · cases h
    · rename_i hp
      rcases e:gW y.au.ls with u | b
      · rw [e] at h
        rcases v2.1 hx with rfl | hx
        · omega
        · exact zG h x hx
      · rw [e] at h
        simp only [qQ,lp] at h
        subst h
        exact absurd e (L1f _)
where L1f:∀ l:List aJ,gW l≠ .inr true
  | []=>by intro h; cases h
  | y::l=>by
    simp only [gW,bnd]
    split
    · split
      · intro h; cases h
      · exact L1f l
    · intro h; cases h
theorem Di (p:bQ) (r:fQ) (x:Int) (q:List Int) (v w:Int) (y k2 z A B C D E F:Nat) (b:Bool) (G H:List UInt8) (lo:List bC) (lr:List aX) (lw:List bv):∃ z1' z2' k1' k2' k3' k4' k5' k6' k7' k8' k9' b' s1' s2' lo' lr' lw',cO p r (x::q) v w y k2 z A B C D E F b G H lo lr lw=cO p r q z1' z2' k1' k2' k3' k4' k5' k6' k7' k8' k9' b' s1' s2' lo' lr' lw'∧(x≠7→lo'=lo)∧(x≠3→lr'=lr)∧(x≠11→lw'=lw):=by
  by_cases a:x=0
  · exact⟨_,_,_,_,_,_,_,_,_,_,_,_,_,_,_,_,_,ip a,fun _=>rfl,fun _=>rfl,fun _=>rfl⟩
  by_cases c:x=1
  · exact⟨_,_,_,_,_,_,_,_,_,_,_,_,_,_,_,_,_,et (iN a) (ip c),fun _=>rfl,fun _=>rfl,fun _=>rfl⟩
  by_cases d:x=2
  · exact⟨_,_,_,_,_,_,_,_,_,_,_,_,_,_,_,_,_,et (iN a) (et (iN c) (ip d)),fun _=>rfl,fun _=>rfl,fun _=>rfl⟩
  by_cases e:x=3
  · exact⟨_,_,_,_,_,_,_,_,_,_,_,_,_,_,_,_,_,et (iN a) (et (iN c) (et (iN d) (ip e))),fun _=>rfl,fun h=>absurd e h,fun _=>rfl⟩
  by_cases i:x=4
  · exact⟨_,_,_,_,_,_,_,_,_,_,_,_,_,_,_,_,_,et (iN a) (et (iN c) (et (iN d) (et (iN e) (ip i)))),fun _=>rfl,fun _=>rfl,fun _=>rfl⟩
  by_cases j:x=5
  · exact⟨_,_,_,_,_,_,_,_,_,_,_,_,_,_,_,_,_,et (iN a) (et (iN c) (et (iN d) (et (iN e) (et (iN i) (ip j))))),fun _=>rfl,fun _=>rfl,fun _=>rfl⟩
  by_cases k:x=6
  · exact⟨_,_,_,_,_,_,_,_,_,_,_,_,_,_,_,_,_,et (iN a) (et (iN c) (et (iN d) (et (iN e) (et (iN i) (et (iN j) (ip k)))))),fun _=>rfl,fun _=>rfl,fun _=>rfl⟩
  by_cases l:x=7
  · exact⟨_,_,_,_,_,_,_,_,_,_,_,_,_,_,_,_,_,et (iN a) (et (iN c) (et (iN d) (et (iN e) (et (iN i) (et (iN j) (et (iN k) (ip l))))))),fun h=>absurd l h,fun _=>rfl,fun _=>rfl⟩
  by_cases n:x=8
  · exact⟨_,_,_,_,_,_,_,_,_,_,_,_,_,_,_,_,_,et (iN a) (et (iN c) (et (iN d) (et (iN e) (et (iN i) (et (iN j) (et (iN k) (et (iN l) (ip n)))))))),fun _=>rfl,fun _=>rfl,fun _=>rfl⟩
  by_cases s:x=9
  · exact⟨_,_,_,_,_,_,_,_,_,_,_,_,_,_,_,_,_,et (iN a) (et (iN c) (et (iN d) (et (iN e) (et (iN i) (et (iN j) (et (iN k) (et (iN l) (et (iN n) (ip s))))))))),fun _=>rfl,fun _=>rfl,fun _=>rfl⟩
  by_cases f:x=10
  · exact⟨_,_,_,_,_,_,_,_,_,_,_,_,_,_,_,_,_,et (iN a) (et (iN c) (et (iN d) (et (iN e) (et (iN i) (et (iN j) (et (iN k) (et (iN l) (et (iN n) (et (iN s) (ip f)))))))))),fun _=>rfl,fun _=>rfl,fun _=>rfl⟩
  by_cases g:x=11
  · exact⟨_,_,_,_,_,_,_,_,_,_,_,_,_,_,_,_,_,et (iN a) (et (iN c) (et (iN d) (et (iN e) (et (iN i) (et (iN j) (et (iN k) (et (iN l) (et (iN n) (et (iN s) (et (iN f) (ip g))))))))))),fun _=>rfl,fun _=>rfl,fun h=>absurd g h⟩
  by_cases m:x=12
  · exact⟨_,_,_,_,_,_,_,_,_,_,_,_,_,_,_,_,_,et (iN a) (et (iN c) (et (iN d) (et (iN e) (et (iN i) (et (iN j) (et (iN k) (et (iN l) (et (iN n) (et (iN s) (et (iN f) (et (iN g) (ip m)))))))))))),fun _=>rfl,fun _=>rfl,fun _=>rfl⟩
  by_cases o:x=13
  · exact⟨_,_,_,_,_,_,_,_,_,_,_,_,_,_,_,_,_,et (iN a) (et (iN c) (et (iN d) (et (iN e) (et (iN i) (et (iN j) (et (iN k) (et (iN l) (et (iN n) (et (iN s) (et (iN f) (et (iN g) (et (iN m) (ip o))))))))))))),fun _=>rfl,fun _=>rfl,fun _=>rfl⟩
  by_cases t:x=14
  · exact⟨_,_,_,_,_,_,_,_,_,_,_,_,_,_,_,_,_,et (iN a) (et (iN c) (et (iN d) (et (iN e) (et (iN i) (et (iN j) (et (iN k) (et (iN l) (et (iN n) (et (iN s) (et (iN f) (et (iN g) (et (iN m) (et (iN o) (ip t)))))))))))))),fun _=>rfl,fun _=>rfl,fun _=>rfl⟩
  by_cases u:x=15
  · exact⟨_,_,_,_,_,_,_,_,_,_,_,_,_,_,_,_,_,et (iN a) (et (iN c) (et (iN d) (et (iN e) (et (iN i) (et (iN j) (et (iN k) (et (iN l) (et (iN n) (et (iN s) (et (iN f) (et (iN g) (et (iN m) (et (iN o) (et (iN t) (ip u))))))))))))))),fun _=>rfl,fun _=>rfl,fun _=>rfl⟩
  · exact⟨_,_,_,_,_,_,_,_,_,_,_,_,_,_,_,_,_,et (iN a) (et (iN c) (et (iN d) (et (iN e) (et (iN i) (et (iN j) (et (iN k) (et (iN l) (et (iN n) (et (iN s) (et (iN f) (et (iN g) (et (iN m) (et (iN o) (et (iN t) (iN u))))))))))))))),fun _=>rfl,fun _=>rfl,fun _=>rfl⟩
theorem CX (p:bQ) (r:fQ):∀ (q:List Int) (c d:Int) (f k2 g i j k l m n:Nat) (b:Bool) (o s:List UInt8) (lo:List bC) (lr:List aX) (lw:List bv),
    (7 ∉ q→(cO p r q c d f k2 g i j k l m n b o s lo lr lw).2.2.2.2.2.2.2.2.2.2.2.2.2.2.1=lo)∧(3 ∉ q→(cO p r q c d f k2 g i j k l m n b o s lo lr lw).2.2.2.2.2.2.2.2.2.2.2.2.2.2.2.1=lr)∧(11 ∉ q→(cO p r q c d f k2 g i j k l m n b o s lo lr lw).2.2.2.2.2.2.2.2.2.2.2.2.2.2.2.2=lw)
  | [],c,d,f,k2,g,i,j,k,l,m,n,b,o,s,lo,lr,lw=>⟨fun _=>rfl,fun _=>rfl,fun _=>rfl⟩
  | x::q,c,d,f,k2,g,i,j,k,l,m,n,b,o,s,lo,lr,lw=>by
    obtain⟨z1',z2',k1',k2',k3',k4',k5',k6',k7',k8',k9',b',s1',s2',lo',lr',lw',e,t,u,v⟩:=Di p r x q c d f k2 g i j k l m n b o s lo lr lw
    have ih:=CX p r q z1' z2' k1' k2' k3' k4' k5' k6' k7' k8' k9' b' s1' s2' lo' lr' lw'
    rw [e]
    exact⟨fun h=>(ih.1 fun a=>h (.tail _ a)).trans (t fun a=>h (a ▸ .head _)),fun h=>(ih.2.1 fun a=>h (.tail _ a)).trans (u fun a=>h (a ▸ .head _)),fun h=>(ih.2.2 fun a=>h (.tail _ a)).trans (v fun a=>h (a ▸ .head _))⟩
theorem BQ {x:bQ} (h:qi x=true):x.aD.ls= []∧x.ai.ls= []∧x.ag.ls= []:=by
  unfold qi at h
  split at h
  · split at h
    · rename_i a
      exact⟨v9.1 e6,v9.1 e6,v9.1 e6⟩
    · cases h
  · cases h
theorem qJ {x:bQ} {r:Int} (h:l5 x=r) (b:r=0):Ee x:=by
  subst b
  unfold l5 qN at h
  simp only [bnd] at h
  rcases el:pq x.aM with ⟨y,ok⟩
  rw [el] at h
  split at h
  case isFalse=>cases h
  split at h
  case isFalse=>cases h
  rename_i _ hfrom
  split at h
  case isFalse=>cases h
  split at h
  case isFalse=>cases h
  rename_i hb
  split at h
  case isFalse=>cases h
  rename_i hm
  have hc:=CX x y y.dh.ls x.dJ x.d9 x.aY x.ax x.bf x.di x.bi x.aI x.dM x.cZ x.xN x.dY x.bW.bJ x.bW.bX x.aD.ls x.ai.ls x.ag.ls
  have hl:=BQ hb
  simp only at hl
  have hf:=BP hm
  refine⟨?_, ?_, ?_,fun hk=> ?_,fun hk=> ?_⟩
  · by_cases a:(7:Int) ∈ y.dh.ls
    · have:=hf 7 a
      simp only [oH,qM,bnd,R6, ↓reduceIte] at this
      split at this
      · have:=(BN (of_decide_eq_true this)).1; omega
      split at this
      · split at this
        · split at this
          · omega
          · cases this
        · cases this
      · split at this
        · omega
        · cases this
    · rw [← hc.1 a,hl.1]; exact IU _
  · by_cases a:(11:Int) ∈ y.dh.ls
    · have:=hf 11 a
      simp only [oH,bnd,R6, ↓reduceIte] at this
      have:=of_decide_eq_true this
      unfold kH at this
      split at this
      · cases this
      split at this
      · cases this
      · omega
    · rw [← hc.2.2 a,hl.2.2]; exact IU _
  · by_cases a:(3:Int) ∈ y.dh.ls
    · have:=hf 3 a
      simp only [oH,om,bnd,R6, ↓reduceIte] at this
      split at this
      · split at this
        · cases this
        · exact⟨e6,zG this⟩
      · split at this
        · cases this
        · exact⟨e6,zG this⟩
    · rw [← hc.2.1 a,hl.2.1]; exact mh
  · rw [hk] at el
    have:y.lS=2:=by rw [← (Prod.mk.inj el).1]
    rw [this] at hfrom
    unfold kX at hfrom
    rw [if_neg f3,if_pos rfl] at hfrom
    split at hfrom
    · have:=of_decide_eq_true hfrom; omega
    · cases hfrom
  · rw [hk] at el
    have:y.lS=1:=by rw [← (Prod.mk.inj el).1]
    rw [this] at hfrom
    unfold kX at hfrom
    rw [if_pos rfl] at hfrom
    split at hfrom
    · have:=of_decide_eq_true hfrom; omega
    · cases hfrom
theorem vD {p t:bO} {x:bQ} {m m':aB} (h:jd p x m=(t,m')) (hx:Ee x) (hq:jy x.aY) (ho:s2 m.aa.ag.ls≤1000):Tr 1 p m t m'∧(Mk m→Mk m'):=by
  unfold jd at h
  simp only [bnd] at h
  split at h
  · rename_i hk
    have hr:=zF (show kr p x m=(t,m') from h) (hx.sw hk)
    exact⟨hr.1,hr.2 hx.ops hq ho⟩
  split at h
  · have hr:=yl (show kY p x m=(t,m') from h)
    exact⟨hr.1,hr.2 hx.res⟩
  split at h
  · exact(nS (show lG p x m=(t,m') from h)).2
  split at h
  · obtain⟨rfl,rfl⟩:=Prod.mk.inj h
    exact⟨Dh p x m,id⟩
  have mp:∀ {a:aB},(p,a)=(t,m')→a.aa=m.aa→a.aA.ls=m.aA.ls→a.bH=m.bH→(Mk m→Mk a)→Tr 1 p m t m'∧(Mk m→Mk m'):=fun h b c d e=>by
    obtain⟨rfl,rfl⟩:=Prod.mk.inj h
    exact⟨(GH b (by unfold nA; rw [c]) d (s9 _).symm fun x hx=>by cases hx).one,e⟩
  split at h
  · split at h
    · exact mp h rfl rfl rfl (fun M=>⟨M.nT,M.rF,M.pQ,M.tY,M.dec,M.oO,M.act,M.lX,M.kZ,M.ma,M.mg,M.mf⟩)
    split at h
    · exact mp h rfl rfl rfl (fun M=>⟨M.nT,M.rF,M.pQ,M.tY,M.dec,M.oO,M.act,M.lX,M.kZ,M.ma,M.mg,M.mf⟩)
    split at h
    · exact mp h rfl rfl rfl (fun M=>⟨M.nT,M.rF,M.pQ,M.tY,M.dec,M.oO,M.act,M.lX,M.kZ,M.ma,M.mg,M.mf⟩)
    · exact mp h rfl rfl rfl (fun M=>⟨M.nT,M.rF,M.pQ,M.tY,M.dec,M.oO,M.act,M.lX,M.kZ,M.ma,M.mg,M.mf⟩)
  split at h
  · exact mp h rfl rfl rfl id
  split at h
  · exact mp h rfl rfl rfl id
  · exact mp h rfl rfl rfl id
theorem BR {x:bQ} {r:Int} (h:l5 x=r): ¬ (r=0)∨(s2 x.aD.ls≤24∧s2 x.ag.ls≤1000∧s2 x.ai.ls≤1000∧(¬ (x.aM=1)∨11≤x.aP∧x.aP≤14)∧(¬ (x.aM=9)∨1≤x.aP∧x.aP≤4)):=by
  by_cases a:r=0
  · have M:=qJ h a
    refine .inr ⟨M.ops,M.own,M.res.1, ?_, ?_⟩
    · by_cases k:x.aM=1
      · exact .inr (M.sw k)
      · exact .inl k
    · by_cases k:x.aM=9
      · exact .inr (M.map k)
      · exact .inl k
  · exact .inl a
theorem GK {j:Nat} {p t:bO} {m m':aB} (h:Tr j p m t m') (a:s2 m.aA.ls+s2 m.aa.aj.ls≤8):s2 m'.aa.ag.ls=s2 m.aa.ag.ls∧m'.aa.ak=m.aa.ak∧s2 m'.aA.ls+s2 m'.aa.aj.ls≤8∧s2 m'.aa.aF.ls≤s2 m.aa.aF.ls+j:=⟨by rw [h.own],h.sh,h.ad a,h.la⟩
theorem zH {p:aB} (h:Mk p):∀ x ∈ p.aa.aj.ls,s2 x.ak.ls≤1000000:=fun x hx=>Nat.le_trans (h.dec x hx).2.2.2 f3
theorem zI {p:aB} (h:Mk p):∀ x ∈ p.aa.aF.ls,s2 x.ai.ls≤1000000∧∀ y ∈ x.ai.ls,s2 y.au.ls≤1000000:=fun x hx=>⟨Nat.le_trans (h.oO x hx).2.2.1 f3,dD (h.oO x hx).2.2⟩
theorem j0 {p:Prop}(h:p:=by first | assumption | exact(qJ (by assumption) (by assumption)).res):p:=h
end Go.Proofs.YtbkagebjhbphaaaGreat
