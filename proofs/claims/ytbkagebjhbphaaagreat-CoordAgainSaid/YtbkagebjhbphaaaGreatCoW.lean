/-
  What a message does to the coordinator; which messages may come. Conditions: none beyond each law's own.
-/
import Derived.Test.YtbkagebjhbphaaaGreatCu
namespace Go.Proofs.YtbkagebjhbphaaaGreat
open Int renaming reduceEq→S1
open List renaming append_nil→s9,length→s2,length_eq_zero_iff→v9,length_replicate→H6,mem_cons→v2,mem_singleton→m4,replicate→s0
open Ll renaming mk→E4
set_option linter.unusedVariables false
set_option linter.unusedSimpArgs false
def tq (m:aB):aB:= { m with bP:=Int.toNat (IntKind.u64.wrap (((m.bP:Nat):Int)+1)) }
theorem DN {k:Nat} {m:aB} (h:Im k m):(tq m).bP=m.bP+1:=by
  have a:=h.1
  have b:=h.2.bg
  show Int.toNat (IntKind.u64.wrap (((m.bP:Nat):Int)+1))=_
  rw [IntWalk.u64_in _ e6]; omega
theorem Mk.bu {m:aB} (M:Mk m):Mk (tq m):=⟨M.mP,M.sj,M.qm,by unfold tq; dsimp only; exact mh _,M.dec,M.o8,M.act,M.l8,M.lq,M.mo,M.mr,M.mq⟩
theorem Tr.bu (p:bE) (m:aB):Tr 1 p m p (tq m):=⟨rfl,rfl,id,Nat.le_succ _,fun k _ hl h=>by
  have a:=h.2.more
  have e:=DN h
  refine⟨⟨hl, ?_⟩, [],(s9 _).symm, ?_⟩
  · show Iv (k+1) m.aa.ay (tq m).bP (nA m) (nD m); rw [e]; exact a.2.1
  · show lo m≤r9 m.aa.ay (tq m).bP (nA m) (nD m); rw [e]; exact a.2.2.2⟩
def Bo (m:aB) (x:dD):aB:= { tq m with au:=E4 (m.au.ls++ [x]) }
theorem JA (p:bE) (m:aB) {x:dD} (hx:x.aR=gP m) (hs:s2 m.au.ls+s2 m.aa.ak.ls < 8):Tr 1 p m p (Bo m x):=⟨rfl,rfl,fun _=>by
    show s2 (m.au.ls++ [x])+s2 m.aa.ak.ls≤8
    rw [List.length_append,List.length_singleton]; omega,Nat.le_succ _,fun k _ hl h=>by
  have a:=h.2.more
  have e:=DN h
  have b:nA (Bo m x)=nA m++ [m.aa.ay *4294967296+m.bP+1]:=by
    show List.map dD.aR (m.au.ls++ [x])=_
    rw [List.map_append,List.map_cons,List.map_nil,hx,yR h]; rfl
  refine⟨⟨hl, ?_⟩, [],(s9 _).symm, ?_⟩
  · show Iv (k+1) m.aa.ay (tq m).bP (nA (Bo m x)) (nD m); rw [e,b]; exact a.1
  · show lo m≤r9 m.aa.ay (tq m).bP (nA (Bo m x)) (nD m); rw [e,b]; exact a.2.2.1⟩
theorem xW (c:Int) (x:bM) (m:aB) (n:Nat) (ps:List gq):∀ (l:List gq) (k:Nat) (o:List bM), ∃ q,il c x m n ps l k o=o++q∧∀ z ∈ q,z.aG=3∧z.dW=gG (Bo m (dD.mk n c x.aO m.aa.aL (E4 x.aF.ls) (E4 ps) (E4 (s0 (s2 ps) false)) (E4 (s0 (s2 ps) (E4 []:Ll aS))) 0))∧z.aU=n
  | [],k,o=>⟨[],(s9 _).symm,fun z hz=>by cases hz⟩
  | y::l,k,o=>by
    simp only [il,bnd]
    split
    · exact xW c x m n ps l (k+1) o
    · obtain⟨q,e,hq⟩:=xW c x m n ps l (k+1) (o++ [bM.mk 3 0 y.dV 0 0 0 0 0 n (gG (Bo m (dD.mk n c x.aO m.aa.aL (E4 x.aF.ls) (E4 ps) (E4 (s0 (s2 ps) false)) (E4 (s0 (s2 ps) (E4 []:Ll aS))) 0))) 0 m.aa.aL 0 0 0 false (bI.mk [] []) (E4 y.aF.ls) (E4 []) (E4 [])])
      refine⟨_::q,e.trans (by rw [List.append_assoc]; rfl),fun z hz=> ?_⟩
      rcases v2.1 hz with rfl | hz
      · exact⟨rfl,rfl,rfl⟩
      · exact hq z hz
theorem Dq {o:bv} (h:ll o=0):o.bS≤1000:=by
  have z:∀ {a:bv},a.bS=0→(a.aG=o.aG∧a.bW=o.bW∧a.aQ=o.aQ∧a.bG=o.bG∧a.bU=o.bU∧a.bS=o.bS)→o.bS≤1000:=fun c b=>by
    have:=b.2.2.2.2.2; omega
  unfold ll at h
  simp only [bnd] at h
  split at h
  · split at h
    · rename_i b; exact z rfl b
    · cases h
  split at h
  · split at h
    · rename_i b; exact z rfl b
    · cases h
  split at h
  · split at h
    · rename_i b; exact z rfl b
    · cases h
  split at h
  · split at h
    · unfold qE at h
      simp only [bnd] at h
      split at h
      · split at h
        · cases h
        · split at h
          · cases h
          · omega
      · rename_i b c; exact absurd h c
    · cases h
  split at h
  · split at h
    · rename_i b; exact z rfl b
    · cases h
  · cases h
theorem Bp:∀ {l:List bv} {r:Int},lp (jM l) (fun _=>0)=r→r=0→∀ o ∈ l,ll o=0
  | [],_,_,_,o,ho=>by cases ho
  | y::l,r,h,hr,o,ho=>by
    simp only [jM,bnd] at h
    by_cases e:ll y=0
    · rw [if_pos e] at h
      rcases v2.1 ho with rfl | ho
      · exact e
      · exact Bp h hr o ho
    · rw [if_neg e] at h
      simp only [lp] at h
      omega
theorem Cx {l:List bv} (h:nZ l=0):s2 l≤4∧∀ o ∈ l,o.bS≤1000:=by
  unfold nZ qF at h
  simp only [bnd] at h
  split at h
  · cases h
  split at h
  · cases h
  · exact⟨e6,fun o ho=>Dq (Bp rfl h o ho)⟩
theorem Cy {l:List bv} (h:nZ l=0):∀ o ∈ l,o.bS≤1000:=(Cx h).2
theorem ER {a:List aW} {l:List bv} {r:List gq} (h:lQ a l=(r,0)):nZ l=0:=by
  unfold lQ at h
  simp only [bnd] at h
  split at h
  · split at h
    · assumption
    · rename_i b; exact absurd (Prod.mk.inj h).2 b
  · rename_i b; exact absurd (Prod.mk.inj h).2 b
theorem BH {p t:bE} {c:Int} {x:bM} {m m':aB} (h:dU p c x m=(t,m')):Tr 1 p m t m'∧((1≤c∧c≤4)→s2 x.aF.ls≤24→jZ x.aO→s2 m.aa.ag.ls≤1000→Mk m→Mk m'):=by
  unfold dU at h
  simp only [bnd] at h
  rcases ec:lQ m.aa.ag.ls x.aF.ls with ⟨ps,e⟩
  rw [ec] at h
  have no:∀ {d:bE} {a:aB},dh p c x.aO 2 [] (tq m)=(d,a)→(d,aB.mk (di.mk a.aa.av a.aa.ay a.aa.aX a.aa.aL (E4 m.aa.ag.ls) (E4 m.aa.ak.ls) (E4 m.aa.aJ.ls)) a.bP (E4 m.au.ls) a.bH a.bf a.bi a.bn a.aZ a.dI a.dz a.dB a.dA a.dC)=(t,m')→Tr 1 p m t m'∧((1≤c∧c≤4)→s2 x.aF.ls≤24→jZ x.aO→s2 m.aa.ag.ls≤1000→Mk m→Mk m'):=fun {d a} e h=>by
    have ha:=l6 e
    obtain⟨rfl,f⟩:=Prod.mk.inj h
    obtain rfl:=nH f (by rw [ha.1]; rfl) (by rw [ha.1]; rfl) (by rw [ha.1]; rfl) (by rw [ha.2.1]; rfl)
    exact⟨(Tr.bu p m).trans (Tr.answer e),fun _ _ hq _ M=>ha.2.2.2.2 mD hq M.bu⟩
  rcases b:dh p c x.aO 2 [] (tq m) with ⟨d,a⟩
  have e':=b
  unfold tq at e'
  rw [e'] at h
  split at h
  · exact no b h
  split at h
  · exact no b h
  split at h
  · exact no b h
  split at h
  · rename_i j l _ i
    obtain⟨q,eq,hq⟩:=xW c x m (gP m) ps ps 0 p.bq.ls
    obtain⟨rfl,rfl⟩:=Prod.mk.inj h
    have hb:=JA p m (x:=dD.mk (gP m) c x.aO m.aa.aL (E4 x.aF.ls) (E4 ps) (E4 (s0 (s2 ps) false)) (E4 (s0 (s2 ps) (E4 []:Ll aS))) 0) rfl e6
    refine⟨hb.tells eq hq fun k _ _=>List.mem_map.2 ⟨_,List.mem_append_right _ b1,rfl⟩,fun hc hl hr ho M=>⟨M.mP,M.sj,M.qm,by dsimp only; exact mh _,M.dec,M.o8,fun y hy=> ?_,M.l8,M.lq,M.mo,M.mr,M.mq⟩⟩
    rcases List.mem_append.1 hy with g | g
    · exact M.act y g
    · rw [m4.1 g]
      have h0':e=0:=i
      subst h0'
      exact⟨by dsimp only; unfold gP; exact mh _,hr,M.qm,H6,H6,Bg ec,hc,⟨hl,Cy (ER ec)⟩,Bi ec ho hl,fun r hr=>by rw [(List.mem_replicate.1 hr).2]; exact mD⟩
  · exact no b h
theorem ry (p:bE) (c:Int) (x:bM) (m:aB):∀ l:List fE,fu p c x m l= .inl ()∨∃ t z,fu p c x m l= .inr t∧t.bq.ls=p.bq.ls++ [z]∧z.aG=2
  | []=> .inl rfl
  | y::l=>by
    simp only [fu,bnd]
    split
    · split
      · split
        · exact .inr ⟨_,_,rfl,rfl,rfl⟩
        · exact ry p c x m l
      · exact ry p c x m l
    · exact ry p c x m l
theorem Tr.two {p t:bE} {m:aB} {z:bM} (h:t.bq.ls=p.bq.ls++ [z]) (hz:z.aG=2):Tr 1 p m t m:=(Tr.of rfl rfl rfl h fun y hy=>by rw [m4.1 hy,hz]; decide).one
theorem IR (p:bE) (c:Int) (x:bM) (m:aB):Tr 1 p m (lF p c x m) m:=by
  unfold lF
  rcases ry p c x m m.aa.aJ.ls with h | ⟨t,z,h,ht,hz⟩
  · rw [nU h]; exact Tr.two rfl rfl
  · rw [jq h]; exact Tr.two ht hz
theorem Aj {p t:bE} {x:bM} {m m':aB} (h:iP p x m=(t,m')) (hf:11≤x.aH∧x.aH≤14):Tr 1 p m t m'∧(s2 x.aF.ls≤24→jZ x.aO→s2 m.aa.ag.ls≤1000→Mk m→Mk m'):=by
  unfold iP at h
  simp only [bnd] at h
  have sa:∀ {a:bE},Tr 1 p m a m→(a,m)=(t,m')→Tr 1 p m t m'∧(s2 x.aF.ls≤24→jZ x.aO→s2 m.aa.ag.ls≤1000→Mk m→Mk m'):=fun T h=>by
    obtain⟨rfl,rfl⟩:=Prod.mk.inj h
    exact⟨T,fun _ _ _ M=>M⟩
  have sn:∀ y,(df p y,m)=(t,m')→y.aG=2→Tr 1 p m t m'∧(s2 x.aF.ls≤24→jZ x.aO→s2 m.aa.ag.ls≤1000→Mk m→Mk m'):=fun y h hy=>by
    obtain⟨z,e,hk,_⟩:=Ae p y
    exact sa (Tr.two e (hk.trans hy)) h
  have be:((dU p (x.aH - 10) x m).1,(dU p (x.aH - 10) x m).2)=(t,m')→Tr 1 p m t m'∧(s2 x.aF.ls≤24→jZ x.aO→s2 m.aa.ag.ls≤1000→Mk m→Mk m'):=fun h=>by
    have hb:=BH (show dU p (x.aH - 10) x m=(t,m') from h)
    exact⟨hb.1,hb.2 e6⟩
  split at h
  · split at h
    · exact sa (Tr.same p m).one h
    split at h
    · split at h
      · split at h
        · split at h
          · exact sn _ h rfl
          · exact sa (Tr.same p m).one h
        · exact be h
      · exact be h
    split at h
    · split at h
      · split at h
        · split at h
          · exact sn _ h rfl
          · exact sa (Tr.same p m).one h
        · exact be h
      · exact be h
    split at h
    · split at h
      · split at h
        · split at h
          · exact sn _ h rfl
          · exact sa (Tr.same p m).one h
        · exact be h
      · exact be h
    · split at h
      · split at h
        · split at h
          · exact sn _ h rfl
          · exact sa (Tr.same p m).one h
        · exact be h
      · exact be h
  · exact sa (IR _ _ _ _) h
structure Dr (x:bM):Prop where
  ops:s2 x.aF.ls≤24
  own:s2 x.ag.ls≤1000
  res:mU x.ah.ls
  si:x.aG=1→11≤x.aH∧x.aH≤14
  map:x.aG=9→1≤x.aH∧x.aH≤4
theorem Cz {x:bM}:∀ {l:List Int},lp (jX x l) (fun _=>true)=true→∀ f ∈ l,oV x f=true
  | [],_,f,hf=>by cases hf
  | y::l,h,f,hf=>by
    simp only [jX,bnd] at h
    by_cases e:oV x y=true
    · rw [if_pos e] at h
      rcases v2.1 hf with rfl | hf
      · exact e
      · exact Cz h f hf
    · rw [if_neg e] at h; cases h
theorem Al:∀ {l:List aS},lp (gN l) (fun _=>true)=true→∀ x ∈ l,s2 x.aj.ls≤1000
  | [],_,x,hx=>by cases hx
  | y::l,h,x,hx=>by
    simp only [gN] at h
    split at h
    · cases h
    split at h
    · cases h
    · rename_i hp
      rcases e:gZ y.aj.ls with u | b
      · rw [e] at h
        rcases v2.1 hx with rfl | hx
        · omega
        · exact Al h x hx
      · rw [e] at h
        simp only [sK,lp] at h
        subst h
        exact absurd e (L1f _)
where L1f:∀ l:List aI,gZ l≠ .inr true
  | []=>by intro h; cases h
  | y::l=>by
    simp only [gZ,bnd]
    split
    · split
      · intro h; cases h
      · exact L1f l
    · intro h; cases h
theorem D9 (p:bM) (r:fZ) (x:Int) (q:List Int) (v w:Int) (y k2 z A B C D E F:Nat) (b:Bool) (G H:List UInt8) (lo:List bv) (lr:List aS) (lw:List aW):∃ z1' z2' k1' k2' k3' k4' k5' k6' k7' k8' k9' b' s1' s2' lo' lr' lw',bY p r (x::q) v w y k2 z A B C D E F b G H lo lr lw=bY p r q z1' z2' k1' k2' k3' k4' k5' k6' k7' k8' k9' b' s1' s2' lo' lr' lw'∧(x≠7→lo'=lo)∧(x≠3→lr'=lr)∧(x≠11→lw'=lw):=by
  by_cases a:x=0
  · exact⟨_,_,_,_,_,_,_,_,_,_,_,_,_,_,_,_,_,ip a,fun _=>rfl,fun _=>rfl,fun _=>rfl⟩
  by_cases c:x=1
  · exact⟨_,_,_,_,_,_,_,_,_,_,_,_,_,_,_,_,_,et (iN a) (ip c),fun _=>rfl,fun _=>rfl,fun _=>rfl⟩
  by_cases d:x=2
  · exact⟨_,_,_,_,_,_,_,_,_,_,_,_,_,_,_,_,_,et (iN a) (et (iN c) (ip d)),fun _=>rfl,fun _=>rfl,fun _=>rfl⟩
  by_cases e:x=3
  · exact⟨_,_,_,_,_,_,_,_,_,_,_,_,_,_,_,_,_,et (iN a) (et (iN c) (et (iN d) (ip e))),fun _=>rfl,fun h=>absurd e h,fun _=>rfl⟩
  by_cases i:x=4
  · exact⟨_,_,_,_,_,_,_,_,_,_,_,_,_,_,_,_,_,et (iN a) (et (iN c) (et (iN d) (et (iN e) (ip i)))),fun _=>rfl,fun _=>rfl,fun _=>rfl⟩
  by_cases j:x=5
  · exact⟨_,_,_,_,_,_,_,_,_,_,_,_,_,_,_,_,_,et (iN a) (et (iN c) (et (iN d) (et (iN e) (et (iN i) (ip j))))),fun _=>rfl,fun _=>rfl,fun _=>rfl⟩
  by_cases k:x=6
  · exact⟨_,_,_,_,_,_,_,_,_,_,_,_,_,_,_,_,_,et (iN a) (et (iN c) (et (iN d) (et (iN e) (et (iN i) (et (iN j) (ip k)))))),fun _=>rfl,fun _=>rfl,fun _=>rfl⟩
  by_cases l:x=7
  · exact⟨_,_,_,_,_,_,_,_,_,_,_,_,_,_,_,_,_,et (iN a) (et (iN c) (et (iN d) (et (iN e) (et (iN i) (et (iN j) (et (iN k) (ip l))))))),fun h=>absurd l h,fun _=>rfl,fun _=>rfl⟩
  by_cases n:x=8
  · exact⟨_,_,_,_,_,_,_,_,_,_,_,_,_,_,_,_,_,et (iN a) (et (iN c) (et (iN d) (et (iN e) (et (iN i) (et (iN j) (et (iN k) (et (iN l) (ip n)))))))),fun _=>rfl,fun _=>rfl,fun _=>rfl⟩
  by_cases s:x=9
  · exact⟨_,_,_,_,_,_,_,_,_,_,_,_,_,_,_,_,_,et (iN a) (et (iN c) (et (iN d) (et (iN e) (et (iN i) (et (iN j) (et (iN k) (et (iN l) (et (iN n) (ip s))))))))),fun _=>rfl,fun _=>rfl,fun _=>rfl⟩
  by_cases f:x=10
  · exact⟨_,_,_,_,_,_,_,_,_,_,_,_,_,_,_,_,_,et (iN a) (et (iN c) (et (iN d) (et (iN e) (et (iN i) (et (iN j) (et (iN k) (et (iN l) (et (iN n) (et (iN s) (ip f)))))))))),fun _=>rfl,fun _=>rfl,fun _=>rfl⟩
  by_cases g:x=11
  · exact⟨_,_,_,_,_,_,_,_,_,_,_,_,_,_,_,_,_,et (iN a) (et (iN c) (et (iN d) (et (iN e) (et (iN i) (et (iN j) (et (iN k) (et (iN l) (et (iN n) (et (iN s) (et (iN f) (ip g))))))))))),fun _=>rfl,fun _=>rfl,fun h=>absurd g h⟩
  by_cases m:x=12
  · exact⟨_,_,_,_,_,_,_,_,_,_,_,_,_,_,_,_,_,et (iN a) (et (iN c) (et (iN d) (et (iN e) (et (iN i) (et (iN j) (et (iN k) (et (iN l) (et (iN n) (et (iN s) (et (iN f) (et (iN g) (ip m)))))))))))),fun _=>rfl,fun _=>rfl,fun _=>rfl⟩
  by_cases o:x=13
  · exact⟨_,_,_,_,_,_,_,_,_,_,_,_,_,_,_,_,_,et (iN a) (et (iN c) (et (iN d) (et (iN e) (et (iN i) (et (iN j) (et (iN k) (et (iN l) (et (iN n) (et (iN s) (et (iN f) (et (iN g) (et (iN m) (ip o))))))))))))),fun _=>rfl,fun _=>rfl,fun _=>rfl⟩
  by_cases t:x=14
  · exact⟨_,_,_,_,_,_,_,_,_,_,_,_,_,_,_,_,_,et (iN a) (et (iN c) (et (iN d) (et (iN e) (et (iN i) (et (iN j) (et (iN k) (et (iN l) (et (iN n) (et (iN s) (et (iN f) (et (iN g) (et (iN m) (et (iN o) (ip t)))))))))))))),fun _=>rfl,fun _=>rfl,fun _=>rfl⟩
  by_cases u:x=15
  · exact⟨_,_,_,_,_,_,_,_,_,_,_,_,_,_,_,_,_,et (iN a) (et (iN c) (et (iN d) (et (iN e) (et (iN i) (et (iN j) (et (iN k) (et (iN l) (et (iN n) (et (iN s) (et (iN f) (et (iN g) (et (iN m) (et (iN o) (et (iN t) (ip u))))))))))))))),fun _=>rfl,fun _=>rfl,fun _=>rfl⟩
  · exact⟨_,_,_,_,_,_,_,_,_,_,_,_,_,_,_,_,_,et (iN a) (et (iN c) (et (iN d) (et (iN e) (et (iN i) (et (iN j) (et (iN k) (et (iN l) (et (iN n) (et (iN s) (et (iN f) (et (iN g) (et (iN m) (et (iN o) (et (iN t) (iN u))))))))))))))),fun _=>rfl,fun _=>rfl,fun _=>rfl⟩
theorem DR (p:bM) (r:fZ):∀ (q:List Int) (c d:Int) (f k2 g i j k l m n:Nat) (b:Bool) (o s:List UInt8) (lo:List bv) (lr:List aS) (lw:List aW),
    (7 ∉ q→(bY p r q c d f k2 g i j k l m n b o s lo lr lw).2.2.2.2.2.2.2.2.2.2.2.2.2.2.1=lo)∧(3 ∉ q→(bY p r q c d f k2 g i j k l m n b o s lo lr lw).2.2.2.2.2.2.2.2.2.2.2.2.2.2.2.1=lr)∧(11 ∉ q→(bY p r q c d f k2 g i j k l m n b o s lo lr lw).2.2.2.2.2.2.2.2.2.2.2.2.2.2.2.2=lw)
  | [],c,d,f,k2,g,i,j,k,l,m,n,b,o,s,lo,lr,lw=>⟨fun _=>rfl,fun _=>rfl,fun _=>rfl⟩
  | x::q,c,d,f,k2,g,i,j,k,l,m,n,b,o,s,lo,lr,lw=>by
    obtain⟨z1',z2',k1',k2',k3',k4',k5',k6',k7',k8',k9',b',s1',s2',lo',lr',lw',e,t,u,v⟩:=D9 p r x q c d f k2 g i j k l m n b o s lo lr lw
    have ih:=DR p r q z1' z2' k1' k2' k3' k4' k5' k6' k7' k8' k9' b' s1' s2' lo' lr' lw'
    rw [e]
    exact⟨fun h=>(ih.1 fun a=>h (.tail _ a)).trans (t fun a=>h (a ▸ .head _)),fun h=>(ih.2.1 fun a=>h (.tail _ a)).trans (u fun a=>h (a ▸ .head _)),fun h=>(ih.2.2 fun a=>h (.tail _ a)).trans (v fun a=>h (a ▸ .head _))⟩
theorem CB {x:bM} (h:qI x=true):x.aF.ls= []∧x.ah.ls= []∧x.ag.ls= []:=by
  unfold qI at h
  split at h
  · split at h
    · rename_i a
      exact⟨v9.1 e6,v9.1 e6,v9.1 e6⟩
    · cases h
  · cases h
theorem qY {x:bM} {r:Int} (h:mf x=r) (b:r=0):Dr x:=by
  subst b
  unfold mf ru at h
  simp only [bnd] at h
  rcases el:pU x.aG with ⟨y,ok⟩
  rw [el] at h
  split at h
  case isFalse=>cases h
  split at h
  case isFalse=>cases h
  rename_i _ hfrom
  split at h
  case isFalse=>cases h
  split at h
  case isFalse=>cases h
  rename_i hb
  split at h
  case isFalse=>cases h
  rename_i hm
  have hc:=DR x y y.cK.ls x.cZ x.eu x.aO x.ay x.aU x.dW x.aX x.aL x.dH x.bZ x.xN x.d9 x.bT.bG x.bT.bU x.aF.ls x.ah.ls x.ag.ls
  have hl:=CB hb
  simp only at hl
  have hf:=Cz hm
  refine⟨?_, ?_, ?_,fun hk=> ?_,fun hk=> ?_⟩
  · by_cases a:(7:Int) ∈ y.cK.ls
    · have:=hf 7 a
      simp only [oV,rq,bnd,S1, ↓reduceIte] at this
      split at this
      · have:=(Cx (of_decide_eq_true this)).1; omega
      split at this
      · split at this
        · split at this
          · omega
          · cases this
        · cases this
      · split at this
        · omega
        · cases this
    · rw [← hc.1 a,hl.1]; exact JQ _
  · by_cases a:(11:Int) ∈ y.cK.ls
    · have:=hf 11 a
      simp only [oV,bnd,S1, ↓reduceIte] at this
      have:=of_decide_eq_true this
      unfold kM at this
      split at this
      · cases this
      split at this
      · cases this
      · omega
    · rw [← hc.2.2 a,hl.2.2]; exact JQ _
  · by_cases a:(3:Int) ∈ y.cK.ls
    · have:=hf 3 a
      simp only [oV,oM,bnd,S1, ↓reduceIte] at this
      split at this
      · split at this
        · cases this
        · exact⟨e6,Al this⟩
      · split at this
        · cases this
        · exact⟨e6,Al this⟩
    · rw [← hc.2.1 a,hl.2.1]; exact mD
  · rw [hk] at el
    have:y.lX=2:=by rw [← (Prod.mk.inj el).1]
    rw [this] at hfrom
    unfold lm at hfrom
    rw [if_neg f3,if_pos rfl] at hfrom
    split at hfrom
    · have:=of_decide_eq_true hfrom; omega
    · cases hfrom
  · rw [hk] at el
    have:y.lX=1:=by rw [← (Prod.mk.inj el).1]
    rw [this] at hfrom
    unfold lm at hfrom
    rw [if_pos rfl] at hfrom
    split at hfrom
    · have:=of_decide_eq_true hfrom; omega
    · cases hfrom
theorem yT {p t:bE} {x:bM} {m m':aB} (h:iG p x m=(t,m')) (hx:Dr x) (hq:jZ x.aO) (ho:s2 m.aa.ag.ls≤1000):Tr 1 p m t m'∧(Mk m→Mk m'):=by
  unfold iG at h
  simp only [bnd] at h
  split at h
  · rename_i hk
    have hr:=Aj (show iP p x m=(t,m') from h) (hx.si hk)
    exact⟨hr.1,hr.2 hx.ops hq ho⟩
  split at h
  · have hr:=yS (show jN p x m=(t,m') from h)
    exact⟨hr.1,hr.2 hx.res⟩
  split at h
  · exact(ou (show jY p x m=(t,m') from h)).2
  split at h
  · obtain⟨rfl,rfl⟩:=Prod.mk.inj h
    exact⟨D8 p x m,id⟩
  have mp:∀ {a:aB},(p,a)=(t,m')→a.aa=m.aa→a.au.ls=m.au.ls→a.bP=m.bP→(Mk m→Mk a)→Tr 1 p m t m'∧(Mk m→Mk m'):=fun h b c d e=>by
    obtain⟨rfl,rfl⟩:=Prod.mk.inj h
    exact⟨(Tr.of b (by unfold nA; rw [c]) d (s9 _).symm fun x hx=>by cases hx).one,e⟩
  split at h
  · split at h
    · exact mp h rfl rfl rfl (fun M=>⟨M.mP,M.sj,M.qm,M.uz,M.dec,M.o8,M.act,M.l8,M.lq,M.mo,M.mr,M.mq⟩)
    split at h
    · exact mp h rfl rfl rfl (fun M=>⟨M.mP,M.sj,M.qm,M.uz,M.dec,M.o8,M.act,M.l8,M.lq,M.mo,M.mr,M.mq⟩)
    split at h
    · exact mp h rfl rfl rfl (fun M=>⟨M.mP,M.sj,M.qm,M.uz,M.dec,M.o8,M.act,M.l8,M.lq,M.mo,M.mr,M.mq⟩)
    · exact mp h rfl rfl rfl (fun M=>⟨M.mP,M.sj,M.qm,M.uz,M.dec,M.o8,M.act,M.l8,M.lq,M.mo,M.mr,M.mq⟩)
  split at h
  · exact mp h rfl rfl rfl id
  split at h
  · exact mp h rfl rfl rfl id
  · exact mp h rfl rfl rfl id
theorem CE {x:bM} {r:Int} (h:mf x=r): ¬ (r=0)∨(s2 x.aF.ls≤24∧s2 x.ag.ls≤1000∧s2 x.ah.ls≤1000∧(¬ (x.aG=1)∨11≤x.aH∧x.aH≤14)∧(¬ (x.aG=9)∨1≤x.aH∧x.aH≤4)):=by
  by_cases a:r=0
  · have M:=qY h a
    refine .inr ⟨M.ops,M.own,M.res.1, ?_, ?_⟩
    · by_cases k:x.aG=1
      · exact .inr (M.si k)
      · exact .inl k
    · by_cases k:x.aG=9
      · exact .inr (M.map k)
      · exact .inl k
  · exact .inl a
theorem Iu {j:Nat} {p t:bE} {m m':aB} (h:Tr j p m t m') (a:s2 m.au.ls+s2 m.aa.ak.ls≤8):s2 m'.aa.ag.ls=s2 m.aa.ag.ls∧m'.aa.av=m.aa.av∧s2 m'.au.ls+s2 m'.aa.ak.ls≤8∧s2 m'.aa.aJ.ls≤s2 m.aa.aJ.ls+j:=⟨by rw [h.own],h.sh,h.ad a,h.la⟩
theorem Am {p:aB} (h:Mk p):∀ x ∈ p.aa.ak.ls,s2 x.av.ls≤1000000:=fun x hx=>Nat.le_trans (h.dec x hx).2.2.2 f3
theorem Ao {p:aB} (h:Mk p):∀ x ∈ p.aa.aJ.ls,s2 x.ah.ls≤1000000∧∀ y ∈ x.ah.ls,s2 y.aj.ls≤1000000:=fun x hx=>⟨Nat.le_trans (h.o8 x hx).2.2.1 f3,dE (h.o8 x hx).2.2⟩
theorem j1 {p:Prop}(h:p:=by first | assumption | exact(qY (by assumption) (by assumption)).res):p:=h
end Go.Proofs.YtbkagebjhbphaaaGreat
