/-
  What a step does to the coordinator: what stays, which numbers there are, which Low is told. Conditions: none beyond each law's own.
-/
import Derived.Test.YtbkagebjhbphaaaGreatCh
import Derived.Test.YtbkagebjhbphaaaGreatCi
import Derived.Test.YtbkagebjhbphaaaGreatCj
namespace Go.Proofs.YtbkagebjhbphaaaGreat
set_option linter.unusedVariables false
set_option linter.unusedSimpArgs false
def Lw:Nat→Nat→List bP→Prop
  | a,b, []=>a≤b
  | a,b,x::r=>if x.aI=3 then a≤x.cz∧x.cz≤x.bf∧Lw x.cz b r else Lw a b r
theorem Lw.app {b c:Nat} {r:List bP} (d:Lw b c r):∀ {l:List bP} {a:Nat},Lw a b l→Lw a c (l++r)
  | [],a,h=>by
    revert a
    induction r generalizing b with
    | nil=>exact fun a h=>Nat.le_trans h d
    | cons x r ih=>
      intro a h
      simp only [List.nil_append,Lw] at h d ⊢
      by_cases e:x.aI=3
      · rw [if_pos e] at d ⊢; exact⟨Nat.le_trans h d.1,d.2⟩
      · rw [if_neg e] at d ⊢; exact ih d a h
  | x::l,a,h=>by
    simp only [List.cons_append,Lw] at h ⊢
    by_cases e:x.aI=3
    · rw [if_pos e] at h ⊢; exact⟨h.1,h.2.1,Lw.app d h.2.2⟩
    · rw [if_neg e] at h ⊢; exact Lw.app d h
theorem GJ {a b:Nat} (hab:a≤b):∀ {l:List bP},(∀ x ∈ l,x.aI≠3)→Lw a b l
  | [],_=>hab
  | x::l,h=>by unfold Lw; rw [if_neg (h x (.head _))]; exact GJ hab fun y hy=>h y (.tail _ hy)
def hdN (n:Nat):List Nat→Nat
  | []=>n
  | x::_=>min n x
def rE (b g:Nat) (A D:List Nat):Nat:=hdN (hdN (b *4294967296+g+1) A) D
structure Iv (k b g:Nat) (A D:List Nat):Prop where
  bt:b < 2147483648
  bg:g≤k
  sA:List.Pairwise (· ≤ ·) A
  sD:List.Pairwise (· ≤ ·) D
  lA:∀ x ∈ A,x≤b *4294967296+g
  lD:∀ x ∈ D,x≤b *4294967296+g
theorem zz (n:Nat) (l:List Nat):hdN n l≤n:=by cases l with
  | nil=>exact Nat.le_refl _
  | cons x l=>exact Nat.min_le_left _ _
theorem Av {n:Nat} {l:List Nat} (h:List.Pairwise (· ≤ ·) l):∀ x ∈ l,hdN n l≤x:=by cases l with
  | nil=>intro x hx; cases hx
  | cons y l=>
    intro x hx
    refine Nat.le_trans (Nat.min_le_right _ _) ?_
    rcases List.mem_cons.1 hx with rfl | hx
    · exact Nat.le_refl _
    · exact(List.pairwise_cons.1 h).1 x hx
theorem BI {a n:Nat} {l:List Nat} (h:a≤n) (hl:∀ x ∈ l,a≤x):a≤hdN n l:=by cases l with
  | nil=>exact h
  | cons y l=>exact Nat.le_min.2 ⟨h,hl y (.head _)⟩
section
variable {k b g:Nat} {A D:List Nat}
theorem Iv.le (h:Iv k b g A D):(∀ x ∈ A,rE b g A D≤x)∧(∀ x ∈ D,rE b g A D≤x)∧rE b g A D≤b *4294967296+g+1:=
  ⟨fun x hx=>Nat.le_trans (zz _ _) (Av h.sA x hx),Av h.sD,Nat.le_trans (zz _ _) (zz _ _)⟩
theorem yH {a:Nat} (h:a≤b *4294967296+g+1) (hA:∀ x ∈ A,a≤x) (hD:∀ x ∈ D,a≤x):a≤rE b g A D:=BI (BI h hA) hD
theorem Iv.mono {j:Nat} (h:Iv k b g A D) (hj:k≤j):Iv j b g A D:=⟨h.bt,Nat.le_trans h.bg hj,h.sA,h.sD,h.lA,h.lD⟩
theorem Iv.sub {A' D':List Nat} (h:Iv k b g A D) (hA:A'.Sublist A) (hD:D'.Sublist D):Iv k b g A' D'∧rE b g A D≤rE b g A' D':=
  ⟨⟨h.bt,h.bg,h.sA.sublist hA,h.sD.sublist hD,fun x hx=>h.lA x (hA.subset hx),fun x hx=>h.lD x (hD.subset hx)⟩,yH h.le.2.2 (fun x hx=>h.le.1 x (hA.subset hx)) (fun x hx=>h.le.2.1 x (hD.subset hx))⟩
theorem Iv.more (h:Iv k b g A D):Iv (k+1) b (g+1) (A++ [b *4294967296+g+1]) D∧Iv (k+1) b (g+1) A D∧rE b g A D≤rE b (g+1) (A++ [b *4294967296+g+1]) D∧rE b g A D≤rE b (g+1) A D:=by
  have hle:=h.le
  refine⟨⟨h.bt,Nat.succ_le_succ h.bg,List.pairwise_append.2 ⟨h.sA,List.pairwise_singleton _ _,fun x hx y hy=> ?_⟩,h.sD,fun x hx=> ?_,fun x hx=>Nat.le_trans (h.lD x hx) (by omega)⟩,⟨h.bt,Nat.succ_le_succ h.bg,h.sA,h.sD,fun x hx=>Nat.le_trans (h.lA x hx) (by omega),fun x hx=>Nat.le_trans (h.lD x hx) (by omega)⟩,yH (by omega) (fun x hx=> ?_) hle.2.1,yH (by omega) hle.1 hle.2.1⟩
  · have a:=h.lA x hx; have c:=List.mem_singleton.1 hy; omega
  · rcases List.mem_append.1 hx with a | a
    · have:=h.lA x a; omega
    · have:=List.mem_singleton.1 a; omega
  · rcases List.mem_append.1 hx with a | a
    · exact hle.1 x a
    · rw [List.mem_singleton.1 a]; exact hle.2.2
theorem Iv.ins {i n:Nat} (h:Iv k b g A D) (hn:n≤b *4294967296+g) (c:∀ x ∈ D.take i,x≤n) (d:∀ x ∈ D.drop i,n≤x) (hl:rE b g A D≤n) (A':List Nat) (hA:A'.Sublist A):Iv k b g A' (D.take i++n::D.drop i)∧rE b g A D≤rE b g A' (D.take i++n::D.drop i):=by
  have hm:∀ x ∈ D.take i++n::D.drop i,x=n∨x ∈ D:=fun x hx=>by
    rcases List.mem_append.1 hx with a | a
    · exact .inr (List.mem_of_mem_take a)
    · rcases List.mem_cons.1 a with a | a
      · exact .inl a
      · exact .inr (List.mem_of_mem_drop a)
  refine⟨⟨h.bt,h.bg,h.sA.sublist hA,List.pairwise_append.2 ⟨h.sD.sublist (List.take_sublist _ _),List.pairwise_cons.2 ⟨d,h.sD.sublist (List.drop_sublist _ _)⟩,fun x hx y hy=> ?_⟩,fun x hx=>h.lA x (hA.subset hx),fun x hx=> ?_⟩,yH h.le.2.2 (fun x hx=>h.le.1 x (hA.subset hx)) (fun x hx=> ?_)⟩
  · rcases List.mem_cons.1 hy with rfl | hy
    · exact c x hx
    · exact Nat.le_trans (c x hx) (d y hy)
  · rcases hm x hx with rfl | a
    · exact hn
    · exact h.lD x a
  · rcases hm x hx with rfl | a
    · exact hl
    · exact h.le.2.1 x a
end
def nA (m:aC):List Nat:=List.map dM.bq m.aB.ls
def nD (m:aC):List Nat:=List.map bL.bf m.aa.aj.ls
def lo (m:aC):Nat:=rE m.aa.ay m.bH (nA m) (nD m)
def Im (k:Nat) (m:aC):Prop:=k≤1000000∧Iv k m.aa.ay m.bH (nA m) (nD m)
theorem yj {k:Nat} {m:aC} (h:Im k m):gZ m=m.aa.ay *4294967296+m.bH+1:=by
  have d:=h.2.bt
  have e:=h.2.bg
  have f:=h.1
  have a:eT m.aa.ay 32=m.aa.ay *4294967296:=by unfold eT; rw [show min 32 64=32 from rfl,show ((2:Int) ^ 32)=4294967296 from rfl,IntWalk.u64_in _ (by omega)]; omega
  have c:IntKind.u64.wrap (((m.aa.ay *4294967296:Nat):Int)+((m.bH:Nat):Int))=((m.aa.ay *4294967296+m.bH:Nat):Int):=by rw [IntWalk.u64_in _ (by omega)]; omega
  unfold gZ
  rw [a,c,Int.toNat_natCast,IntWalk.u64_in _ (by omega)]
  omega
theorem Aw {α:Type} [Inhabited α] (f:α→Nat) (N:Nat) (A:List α):(if((List.length A:Nat):Int) > 0 then bnd (List.getD A 0 default) fun y=>min N (f y) else N)=hdN N (List.map f A):=by
  cases A with
  | nil=>exact if_neg (by simp only [List.length_nil]; omega)
  | cons a A=>exact if_pos (by simp only [List.length_cons]; omega)
def Cq (N:Nat) (a:aC):Nat:=bnd N fun y=>bnd (if((List.length a.aB.ls:Nat):Int) > 0 then bnd (List.getD a.aB.ls 0 default) fun x=>min y x.bq else y) fun s=>if((List.length a.aa.aj.ls:Nat):Int) > 0 then bnd (List.getD a.aa.aj.ls 0 default) fun x=>min s x.bf else s
theorem De (N:Nat) (m:aC):Cq N m=hdN (hdN N (nA m)) (nD m):=(Aw bL.bf _ _).trans (congrArg (fun q=>hdN q (nD m)) (Aw dM.bq _ _))
theorem BJ (m:aC):gu m=Cq (gZ m) m:=by unfold gu Cq; exact Eq.refl _
theorem Cr {k:Nat} {m:aC} (h:Im k m):gu m=lo m:=by rw [BJ,yj h,De]; rfl
structure Tr (j:Nat) (p:bQ) (m:aC) (t:bQ) (m':aC):Prop where
  own:m'.aa.ag.ls=m.aa.ag.ls
  sh:m'.aa.au=m.aa.au
  ad:List.length m.aB.ls+List.length m.aa.aj.ls≤8→List.length m'.aB.ls+List.length m'.aa.aj.ls≤8
  la:List.length m'.aa.aG.ls≤List.length m.aa.aG.ls+j
  lw:∀ k,Im (k+j) m→k+j≤1000000→Im k m→Im (k+j) m'∧∃ o,t.bE.ls=p.bE.ls++o∧Lw (lo m) (lo m') o
theorem Tr.same (p:bQ) (m:aC):Tr 0 p m p m:=⟨rfl,rfl,id,Nat.le_refl _,fun k h _ _=>⟨h, [],(List.append_nil _).symm,Nat.le_refl _⟩⟩
theorem Im.mono {k j:Nat} {m:aC} (h:Im k m) (hj:k≤j) (hl:j≤1000000):Im j m:=⟨hl,h.2.mono hj⟩
theorem Tr.trans {i j:Nat} {p t u:bQ} {m d e:aC} (a:Tr i p m t d) (c:Tr j t d u e):Tr (i+j) p m u e:=
  ⟨c.own.trans a.own,c.sh.trans a.sh,fun h=>c.ad (a.ad h),by have:=a.la; have:=c.la; omega,fun k _ hl hk=>by
    obtain⟨f,l,n,o⟩:=a.lw k (hk.mono (by omega) (by omega)) (by omega) hk
    obtain⟨q,r,s,v⟩:=c.lw (k+i) (f.mono (by omega) (by omega)) (by omega) f
    exact⟨Nat.add_assoc k i j ▸ q,l++r,by rw [s,n,List.append_assoc],v.app o⟩⟩
theorem Tr.one {p t:bQ} {m m':aC} (h:Tr 0 p m t m'):Tr 1 p m t m':=⟨h.own,h.sh,h.ad,Nat.le_succ_of_le h.la,fun k _ hl hk=>by
  obtain⟨a,c,d,e⟩:=h.lw k hk (by omega) hk
  exact⟨a.mono (by omega) hl,c,d,e⟩⟩
theorem GH {p t:bQ} {m m':aC} {o:List bP} (hs:m'.aa=m.aa) (ha:nA m'=nA m) (hb:m'.bH=m.bH) (ho:t.bE.ls=p.bE.ls++o) (hk:∀ x ∈ o,x.aI≠3):Tr 0 p m t m':=by
  have hl:List.length m'.aB.ls=List.length m.aB.ls:=by have:=congrArg List.length ha; simp only [nA,List.length_map] at this; exact this
  have e:lo m'=lo m:=by unfold lo nD; rw [hs,ha,hb]
  refine⟨by rw [hs],by rw [hs],by rw [hs,hl]; exact id,by rw [hs]; exact Nat.le_refl _,fun k h _ _=>⟨?_,o,ho,GJ (Nat.le_of_eq e.symm) hk⟩⟩
  unfold Im nD at h ⊢; rw [hs,ha,hb]; exact h
theorem zA (p:bQ) (x:bP):∃ y,(dD p x).bE.ls=p.bE.ls++ [y]∧y.aI=x.aI∧y.cz=x.cz∧y.bf=x.bf:=⟨_,rfl,rfl,rfl,rfl⟩
theorem qH {p t:bQ} {c:Int} {q:Nat} {k:Int} {l:List aZ} {m m':aC} (h:d9 p c q k l m=(t,m')):m'.aa=m.aa∧m'.aB.ls=m.aB.ls∧m'.bH=m.bH∧(∃ x,t.bE.ls=p.bE.ls++ [x]∧x.aI=2)∧(mK l→jh q→Mk m→Mk m'):=by
  unfold d9 jc at h
  simp only [bnd] at h
  split at h
  · obtain⟨rfl,rfl⟩:=Prod.mk.inj h
    exact⟨rfl,rfl,rfl,⟨_,rfl,rfl⟩,fun hl hq M=>⟨M.nU,M.rF,M.pQ,M.uf,M.dec,M.oO,M.act,M.lW,⟨hl,hq⟩,M.mg,M.mf,M.mh⟩⟩
  split at h
  · obtain⟨rfl,rfl⟩:=Prod.mk.inj h
    exact⟨rfl,rfl,rfl,⟨_,rfl,rfl⟩,fun hl hq M=>⟨M.nU,M.rF,M.pQ,M.uf,M.dec,M.oO,M.act,M.lW,M.kZ,⟨hl,hq⟩,M.mf,M.mh⟩⟩
  split at h
  · obtain⟨rfl,rfl⟩:=Prod.mk.inj h
    exact⟨rfl,rfl,rfl,⟨_,rfl,rfl⟩,fun hl hq M=>⟨M.nU,M.rF,M.pQ,M.uf,M.dec,M.oO,M.act,M.lW,M.kZ,M.mg,⟨hl,hq⟩,M.mh⟩⟩
  · obtain⟨rfl,rfl⟩:=Prod.mk.inj h
    exact⟨rfl,rfl,rfl,⟨_,rfl,rfl⟩,fun hl hq M=>⟨M.nU,M.rF,M.pQ,M.uf,M.dec,M.oO,M.act,M.lW,M.kZ,M.mg,M.mf,⟨hl,hq⟩⟩⟩
theorem zB (n:Nat) (f:Bool):∀ (l:List Int) (o:List bP), ∃ q,gT n f l o=o++q∧∀ x ∈ q,x.aI=5
  | [],o=>⟨[],(List.append_nil _).symm,fun x hx=>by cases hx⟩
  | s::l,o=>by
    simp only [gT,bnd]
    obtain⟨y,e,hk,_⟩:=zA (bQ.mk (Ll.mk o)) (bP.mk 5 0 s 0 0 0 0 0 n 0 0 0 0 0 0 f (bK.mk [] []) (Ll.mk []) (Ll.mk []) (Ll.mk []))
    rw [e]
    obtain⟨q,a,c⟩:=zB n f l (o++ [y])
    refine⟨y::q,by rw [a,List.append_assoc]; rfl,fun x hx=> ?_⟩
    rcases List.mem_cons.1 hx with rfl | hx
    · exact hk
    · exact c x hx
theorem xx (p:bQ) (n:Nat) (l:List Int) (f:Bool):∃ q,(fu p n l f).bE.ls=p.bE.ls++q∧∀ x ∈ q,x.aI=5:=by
  obtain⟨q,e,h⟩:=zB n f l p.bE.ls
  exact⟨q,by unfold fu; simp only [bnd]; exact e,h⟩
theorem Tr.decide (p:bQ) (n:Nat) (l:List Int) (f:Bool) (m:aC):Tr 0 p m (fu p n l f) m:=by
  obtain⟨q,e,h⟩:=xx p n l f
  exact GH rfl rfl rfl e (fun x hx=>by rw [h x hx]; decide)
theorem Tr.answer {p t:bQ} {c:Int} {q:Nat} {k:Int} {l:List aZ} {m m':aC} (h:d9 p c q k l m=(t,m')):Tr 0 p m t m':=by
  obtain⟨a,d,f,⟨x,e,hx⟩,i⟩:=qH h
  exact GH a (by unfold nA; rw [d]) f e (fun y hy=>by rw [List.mem_singleton.1 hy,hx]; decide)
theorem Em {m':aC} {o:List bv} {d:List bL} {l:List fG} {a:List dM} (c:m'.aa.ag.ls=o) (e:m'.aa.aj.ls=d) (f:m'.aa.aG.ls=l) (h:m'.aB.ls=a):aC.mk (dC.mk m'.aa.au m'.aa.ay m'.aa.aY m'.aa.aH (Ll.mk o) (Ll.mk d) (Ll.mk l)) m'.bH (Ll.mk a) m'.aR m'.aN m'.aM m'.aO m'.aP m'.di m'.cB m'.cZ m'.cK m'.cO=m':=by subst c e f h; rfl
theorem sK {c m':aC} {o:List bv} {d:List bL} {l:List fG} {a:List dM} (h:aC.mk (dC.mk c.aa.au c.aa.ay c.aa.aY c.aa.aH (Ll.mk o) (Ll.mk d) (Ll.mk l)) c.bH (Ll.mk a) c.aR c.aN c.aM c.aO c.aP c.di c.cB c.cZ c.cK c.cO=m') (e:c.aa.ag.ls=o) (f:c.aa.aj.ls=d) (i:c.aa.aG.ls=l) (j:c.aB.ls=a):c=m':=(Em e f i j).symm.trans h
theorem getD_at {α:Type} [Inhabited α] {l:List α} {i:Nat} (h:i < l.length):l[i]? =some (List.getD l i default):=by
  rw [List.getD_eq_getElem?_getD,List.getElem?_eq_getElem h]; rfl
def yl (m:aC) (i:Nat):aC:= { m with aB:=Ll.mk (List.take i m.aB.ls++List.drop (i+1) m.aB.ls) }
theorem qI {α:Type} (l:List α) (i:Nat):(List.take i l++List.drop (i+1) l).Sublist l:=by
  have h:(List.drop (i+1) l).Sublist (List.drop i l):=by rw [← List.tail_drop]; exact List.tail_sublist _
  have:=(List.Sublist.refl (List.take i l)).append h
  rwa [List.take_append_drop] at this
theorem Mk.cut {m:aC} (M:Mk m) (i:Nat):Mk (yl m i):=⟨M.nU,M.rF,M.pQ,M.uf,M.dec,M.oO,fun x hx=>M.act x ((qI _ _).subset hx),M.lW,M.kZ,M.mg,M.mf,M.mh⟩
theorem Tr.cut (p:bQ) (m:aC) (i:Nat):Tr 0 p m p (yl m i):=by
  have hs:=qI m.aB.ls i
  have hA:nA (yl m i)=List.take i (nA m)++List.drop (i+1) (nA m):=by simp only [nA,yl,List.map_append,List.map_take,List.map_drop]
  refine⟨rfl,rfl,fun h=> ?_,Nat.le_refl _,fun k h _ _=> ?_⟩
  · have:=hs.length_le; simp only [yl]; omega
  · have a:=h.2.sub (A':=nA (yl m i)) (hA ▸ qI (nA m) i) (List.Sublist.refl _)
    exact⟨⟨h.1,a.1⟩, [],(List.append_nil _).symm,a.2⟩
theorem sj {m:aC} (M:Mk m) {i:Nat} (hi:i < m.aB.ls.length):Tok (List.getD m.aB.ls i default):=M.act _ (List.mem_of_getElem? (getD_at hi))
theorem xy (l:List fV):List.length (gG l [])=List.length l:=(zy l []).trans (Nat.zero_add _)
theorem uy {p t:bQ} {i:Int} {m m':aC} (hi:Int.toNat i < m.aB.ls.length) (h:gy p i m=(t,m')):m'.aa=m.aa∧Tr 0 p m t m'∧(Mk m→Mk m')∧List.length t.bE.ls=List.length p.bE.ls+1+List.length (List.getD m.aB.ls (Int.toNat i) default).aF.ls:=by
  unfold gy at h
  simp only [bnd] at h
  rcases e:d9 p (List.getD m.aB.ls (Int.toNat i) default).aW (List.getD m.aB.ls (Int.toNat i) default).aK 2 [] (yl m (Int.toNat i)) with ⟨c,d⟩
  have e':=e
  unfold yl at e'
  rw [e'] at h
  have ha:=qH e
  obtain⟨rfl,a⟩:=Prod.mk.inj h
  obtain rfl:=sK a (by rw [ha.1]; rfl) (by rw [ha.1]; rfl) (by rw [ha.1]; rfl) (by rw [ha.2.1]; rfl)
  exact⟨ha.1,(Tr.cut p m (Int.toNat i)).trans ((Tr.answer e).trans (Tr.decide _ _ _ _ _)),fun M=>ha.2.2.2.2 mi (sj M hi).sw (M.cut _),by
    obtain⟨x,e,_⟩:=ha.2.2.2.1
    rw [xu rfl,e,List.length_append,List.length_singleton]
    simp only [kg,bnd]; rw [xy]⟩
theorem BK (a b:Nat):ib a b < 0↔a < b:=by
  unfold ib lF
  simp only [bnd]
  by_cases h:((a:Nat):Int) < ((b:Nat):Int)
  · simp [h]; omega
  · by_cases c:((a:Nat):Int) > ((b:Nat):Int) <;> simp [h,c] <;> omega
theorem zC {l:List bL} {n:Nat} (hs:∀ i j:Nat,i≤j→j < l.length→(List.getD l i default).bf≤(List.getD l j default).bf):∀ (f a b:Nat),a≤b→b≤l.length→b - a < f→(∀ i,i < a→(List.getD l i default).bf < n)→(∀ i,b≤i→i < l.length→n≤(List.getD l i default).bf)→
    ∃ r,dJ l n f a b=r∧r≤l.length∧(∀ i,i < r→(List.getD l i default).bf < n)∧(∀ i,r≤i→i < l.length→n≤(List.getD l i default).bf)
  | 0,a,b,_,_,h,_,_=>by omega
  | f+1,a,b,hab,hb,hf,c,d=>by
    simp only [dJ,bnd]
    by_cases hlt:((a:Nat):Int) < ((b:Nat):Int)
    · rw [if_pos hlt]
      by_cases hc:ib (List.getD l ((a+b) / 2) default).bf n < 0
      · rw [if_pos hc]
        rw [BK] at hc
        exact zC hs f _ _ (by omega) hb (by omega) (fun i hi=>Nat.lt_of_le_of_lt (hs i ((a+b) / 2) (by omega) (by omega)) hc) d
      · rw [if_neg hc]
        rw [BK] at hc
        exact zC hs f _ _ (by omega) (by omega) (by omega) c (fun i hi hl=>Nat.le_trans (Nat.le_of_not_lt hc) (hs ((a+b) / 2) i hi hl))
    · rw [if_neg hlt]
      exact⟨a,rfl,by omega,c,fun i hi hl=>d i (by omega) hl⟩
theorem Cs {l:List bL} (h:List.Pairwise (· ≤ ·) (List.map bL.bf l)) (i j:Nat) (hij:i≤j) (hj:j < l.length):(List.getD l i default).bf≤(List.getD l j default).bf:=by
  rcases Nat.lt_or_eq_of_le hij with a | rfl
  · have:=List.pairwise_iff_getElem.1 h i j (by rw [List.length_map]; omega) (by rw [List.length_map]; omega) a
    rw [List.getElem_map,List.getElem_map] at this
    rw [List.getD_eq_getElem?_getD,List.getD_eq_getElem?_getD,List.getElem?_eq_getElem (by omega),List.getElem?_eq_getElem hj]
    exact this
  · exact Nat.le_refl _
theorem Ct {l:List bL} {n:Nat} {r:Int × Bool} (hr:bX l n=r) (h:List.Pairwise (· ≤ ·) (List.map bL.bf l)):(∀ x ∈ List.take (Int.toNat r.1) (List.map bL.bf l),x≤n)∧(∀ x ∈ List.drop (Int.toNat r.1) (List.map bL.bf l),n≤x):=by
  obtain⟨q,e,hl,a,c⟩:=zC (Cs h) ((l.length - 0)+1) 0 l.length (IU _) (Nat.le_refl _) (by omega) (fun i hi=>by omega) (fun i hi hl=>by omega)
  have hq:Int.toNat r.1=q:=by
    rw [← hr]; unfold bX
    simp only [bnd]
    rw [e]
    split <;> rfl
  rw [hq]
  have at_:∀ i (hi:i < l.length),(List.map bL.bf l)[i]'(by rw [List.length_map]; exact hi)=(List.getD l i default).bf:=fun i hi=>by
    rw [List.getElem_map,List.getD_eq_getElem?_getD,List.getElem?_eq_getElem hi]; rfl
  refine⟨fun x hx=> ?_,fun x hx=> ?_⟩
  · obtain⟨i,hi,rfl⟩:=List.mem_take_iff_getElem.1 hx
    rw [List.length_map] at hi
    rw [at_ i (by omega)]
    exact Nat.le_of_lt (a i (by omega))
  · obtain⟨i,hi,rfl⟩:=List.mem_drop_iff_getElem.1 hx
    rw [List.length_map] at hi
    rw [at_ (q+i) (by omega)]
    exact c _ (by omega) (by omega)
def qm (m:aC) (i j:Nat) (d:bL) (L:List fG):aC:= { m with aa:=dC.mk m.aa.au m.aa.ay m.aa.aY m.aa.aH (Ll.mk m.aa.ag.ls) (Ll.mk (List.take j m.aa.aj.ls++(d::List.drop j m.aa.aj.ls))) (Ll.mk L),aB:=Ll.mk (List.take i m.aB.ls++List.drop (i+1) m.aB.ls) }
theorem Tr.com (p:bQ) (m:aC) {i j:Nat} {d:bL} {L:List fG} (hi:i < m.aB.ls.length) (hd:d.bf=(List.getD m.aB.ls i default).bq) (hL:List.length L≤List.length m.aa.aG.ls+1)
    (hj:List.Pairwise (· ≤ ·) (nD m)→(∀ x ∈ List.take j (nD m),x≤d.bf)∧(∀ x ∈ List.drop j (nD m),d.bf≤x)):Tr 1 p m p (qm m i j d L):=by
  have hA:nA (qm m i j d L)=List.take i (nA m)++List.drop (i+1) (nA m):=by simp only [nA,qm,List.map_append,List.map_take,List.map_drop]
  have hD:nD (qm m i j d L)=List.take j (nD m)++d.bf::List.drop j (nD m):=by simp only [nD,qm,List.map_append,List.map_cons,List.map_take,List.map_drop]
  have hm:d.bf ∈ nA m:=by rw [hd]; exact List.mem_map.2 ⟨_,List.mem_of_getElem? (getD_at hi),rfl⟩
  refine⟨rfl,rfl,fun h=> ?_,hL,fun k _ hl h=> ?_⟩
  · simp only [qm,List.length_append,List.length_take,List.length_drop,List.length_cons]; omega
  · have a:=h.2.ins (h.2.lA _ hm) (hj h.2.sD).1 (hj h.2.sD).2 (h.2.le.1 _ hm) (nA (qm m i j d L)) (hA ▸ qI (nA m) i)
    rw [← hD] at a
    exact⟨⟨hl,a.1.mono (Nat.le_succ k)⟩, [],(List.append_nil _).symm,a.2⟩
theorem Mk.com {m:aC} (M:Mk m) {i j:Nat} {d:bL} {L:List fG} (hd:jh d.bf∧jh d.ay∧jh d.aU∧List.length d.au.ls≤1000) (hL:∀ x ∈ L,jh x.ay∧jh x.aU∧mK x.ah.ls):Mk (qm m i j d L):=
  ⟨M.nU,M.rF,M.pQ,M.uf,fun x hx=>by
    rcases List.mem_append.1 hx with h | h
    · exact M.dec x (List.mem_of_mem_take h)
    · rcases List.mem_cons.1 h with rfl | h
      · exact hd
      · exact M.dec x (List.mem_of_mem_drop h),hL,fun x hx=>M.act x ((qI _ _).subset hx),M.lW,M.kZ,M.mg,M.mf,M.mh⟩
set_option maxHeartbeats 2000000 in
theorem zR {p t:bQ} {i:Int} {m m':aC} (hi:Int.toNat i < m.aB.ls.length) (h:lg p i m=(t,m')):Tr 1 p m t m'∧(Mk m→Mk m'):=by
  unfold lg at h
  simp only [bnd,kg] at h
  have hT:=fun M:Mk m=>sj M hi
  generalize hy:List.getD m.aB.ls (Int.toNat i) default=y at h hT
  rcases eg:nu y.bU.ls y.aF.ls y.ae.ls with ⟨rs,ge⟩
  rw [eg] at h
  have hgr:=fun M:Mk m=>xq eg (hT M).ops.1 (hT M).ops.2 (hT M).AO
  rcases es:bX m.aa.aj.ls y.bq with ⟨j,oj⟩
  rcases el:iw m.aa.aG.ls y.aW with ⟨q,oq⟩
  rw [es,el] at h
  obtain⟨sl,hsl⟩:∃ sl,gG y.aF.ls []=sl:=⟨_,rfl⟩
  rw [hsl] at h
  have hds:=fun M:Mk m=>(show jh y.bq∧jh m.aa.ay∧jh y.aK∧List.length sl≤1000 from ⟨(hT M).num,M.nU,(hT M).sw,by have:=(hT M).len; rw [← hsl,xy]; omega⟩)
  have go:∀ {L:List fG} {f:bQ} {c:aC},d9 p y.aW y.aK 1 rs (qm m (Int.toNat i) (Int.toNat j) (bL.mk y.bq y.aW m.aa.ay y.aK (Ll.mk sl)) L)=(f,c)→List.length L≤List.length m.aa.aG.ls+1→(Mk m→∀ x ∈ L,jh x.ay∧jh x.aU∧mK x.ah.ls)→Tr 1 p m (fu f y.bq sl true) c∧(Mk m→Mk c):=fun {L f c} e hL hM=>by
    have ha:=qH e
    have hc:Tr 1 p m p (qm m (Int.toNat i) (Int.toNat j) (bL.mk y.bq y.aW m.aa.ay y.aK (Ll.mk sl)) L):=Tr.com p m hi (by rw [hy]) hL fun hp=>Ct es hp
    exact⟨hc.trans ((Tr.answer e).trans (Tr.decide _ _ _ _ _)),fun M=>ha.2.2.2.2 (hgr M) (hT M).sw (M.com (hds M) (hM M))⟩
  split at h
  · split at h
    · rcases e:d9 p y.aW y.aK 1 rs (qm m (Int.toNat i) (Int.toNat j) (bL.mk y.bq y.aW m.aa.ay y.aK (Ll.mk sl)) (List.set m.aa.aG.ls (Int.toNat q) (fG.mk y.aW m.aa.ay y.aK (Ll.mk rs)))) with ⟨f,c⟩
      have ha:=qH e
      have e':=e
      unfold qm at e'
      rw [e'] at h
      obtain⟨rfl,a⟩:=Prod.mk.inj h
      obtain rfl:=sK a (by rw [ha.1]; rfl) (by rw [ha.1]; rfl) (by rw [ha.1]; rfl) (by rw [ha.2.1]; rfl)
      refine go e (by rw [List.length_set]; omega) fun M x hx=> ?_
      rcases List.mem_or_eq_of_mem_set hx with d | rfl
      · exact M.oO x d
      · exact⟨M.nU,(hT M).sw,hgr M⟩
    · rcases e:d9 p y.aW y.aK 1 rs (qm m (Int.toNat i) (Int.toNat j) (bL.mk y.bq y.aW m.aa.ay y.aK (Ll.mk sl)) (List.take (Int.toNat q) m.aa.aG.ls++((fG.mk y.aW m.aa.ay y.aK (Ll.mk rs))::List.drop (Int.toNat q) m.aa.aG.ls))) with ⟨f,c⟩
      have ha:=qH e
      have e':=e
      unfold qm at e'
      rw [e'] at h
      obtain⟨rfl,a⟩:=Prod.mk.inj h
      obtain rfl:=sK a (by rw [ha.1]; rfl) (by rw [ha.1]; rfl) (by rw [ha.1]; rfl) (by rw [ha.2.1]; rfl)
      refine go e (by rw [List.length_append,List.length_cons,List.length_take,List.length_drop]; omega) fun M x hx=> ?_
      rcases List.mem_append.1 hx with d | d
      · exact M.oO x (List.mem_of_mem_take d)
      · rcases List.mem_cons.1 d with rfl | d
        · exact⟨M.nU,(hT M).sw,hgr M⟩
        · exact M.oO x (List.mem_of_mem_drop d)
  · rcases e:gy p i m with ⟨f,c⟩
    rw [e] at h
    have ha:=uy hi e
    obtain⟨rfl,a⟩:=Prod.mk.inj h
    obtain rfl:=sK a (by rw [ha.1]) (by rw [ha.1]) (by rw [ha.1]) rfl
    exact⟨ha.2.1.one,ha.2.2.1⟩
def vC (m:aC) (i:Nat) (y:dM):aC:= { m with aB:=Ll.mk (List.set m.aB.ls i y) }
theorem Cu {l:List dM} {i:Nat} {y:dM} (hy:y.bq=(List.getD l i default).bq):List.map dM.bq (List.set l i y)=List.map dM.bq l:=by
  rw [List.map_set]
  by_cases h:i < l.length
  · have:(List.map dM.bq l)[i]'(by rw [List.length_map]; exact h)=y.bq:=by rw [List.getElem_map,hy,List.getD_eq_getElem?_getD,List.getElem?_eq_getElem h]; rfl
    rw [← this]; exact List.set_getElem_self _
  · exact List.set_eq_of_length_le (by rw [List.length_map]; omega)
theorem Tr.set (p:bQ) (m:aC) {i:Nat} {y:dM} (hy:y.bq=(List.getD m.aB.ls i default).bq):Tr 0 p m p (vC m i y):=GH rfl (Cu hy) rfl (List.append_nil _).symm (fun x hx=>by cases hx)
theorem Mk.set {m:aC} (M:Mk m) {i:Nat} {y:dM} (hy:Tok y):Mk (vC m i y):=⟨M.nU,M.rF,M.pQ,M.uf,M.dec,M.oO,mE M.act hy,M.lW,M.kZ,M.mg,M.mf,M.mh⟩
theorem BL {l:List dM} {n:Nat} {r:Int × Bool} (hr:dB l n=r) (h:r.2=true):Int.toNat r.1 < l.length:=by
  unfold dB at hr
  simp only [bnd] at hr
  split at hr
  · subst hr; simp only [Int.toNat_natCast]; omega
  · subst hr; cases h
theorem ym {p t:bQ} {x:bP} {m m':aC} (h:kY p x m=(t,m')):Tr 1 p m t m'∧(mK x.ah.ls→Mk m→Mk m'):=by
  have same:(p,m)=(t,m')→Tr 1 p m t m'∧(mK x.ah.ls→Mk m→Mk m'):=fun h=>by
    obtain⟨rfl,rfl⟩:=Prod.mk.inj h
    exact⟨(Tr.same p m).one,fun _ M=>M⟩
  unfold kY jc at h
  simp only [bnd] at h
  rcases ef:dB m.aB.ls x.bf with ⟨i,ok⟩
  rw [ef] at h
  split at h
  case isFalse=>exact same h
  rename_i hok
  have hi:=BL ef hok
  split at h
  · exact same h
  split at h
  · exact same h
  have ab:∀ {d:bQ} {a:aC},gy p i m=(d,a)→(d,aC.mk (dC.mk a.aa.au a.aa.ay a.aa.aY a.aa.aH (Ll.mk m.aa.ag.ls) (Ll.mk m.aa.aj.ls) (Ll.mk m.aa.aG.ls)) a.bH (Ll.mk a.aB.ls) a.aR a.aN a.aM a.aO a.aP a.di a.cB a.cZ a.cK a.cO)=(t,m')→Tr 1 p m t m'∧(mK x.ah.ls→Mk m→Mk m'):=fun e h=>by
    have ha:=uy hi e
    obtain⟨rfl,c⟩:=Prod.mk.inj h
    obtain rfl:=sK c (by rw [ha.1]) (by rw [ha.1]) (by rw [ha.1]) rfl
    exact⟨ha.2.1.one,fun _=>ha.2.2.1⟩
  split at h
  · split at h
    · split at h
      · obtain⟨rfl,rfl⟩:=Prod.mk.inj h
        refine⟨Tr.one ?_,fun hr M=>M.set (i:=Int.toNat i) (nQ (sj M hi) hr)⟩
        refine Tr.set p m (i:=Int.toNat i) ?_
        rfl
      · rcases e:lg p i (vC m (Int.toNat i) (dM.mk (List.getD m.aB.ls (Int.toNat i) default).bq (List.getD m.aB.ls (Int.toNat i) default).aW (List.getD m.aB.ls (Int.toNat i) default).aK (List.getD m.aB.ls (Int.toNat i) default).dA (Ll.mk (List.getD m.aB.ls (Int.toNat i) default).bU.ls) (Ll.mk (List.getD m.aB.ls (Int.toNat i) default).aF.ls) (Ll.mk (List.set (List.getD m.aB.ls (Int.toNat i) default).bF.ls (Int.toNat (ik (List.getD m.aB.ls (Int.toNat i) default).aF.ls x)) true)) (Ll.mk (List.set (List.getD m.aB.ls (Int.toNat i) default).ae.ls (Int.toNat (ik (List.getD m.aB.ls (Int.toNat i) default).aF.ls x)) (Ll.mk x.ah.ls))) (List.getD m.aB.ls (Int.toNat i) default).ed)) with ⟨d,a⟩
        have e':=e
        unfold vC at e'
        rw [e'] at h
        have hc:=zR (by unfold vC; simp only [List.length_set]; exact hi) e
        obtain⟨rfl,c⟩:=Prod.mk.inj h
        obtain rfl:=sK c (by rw [hc.1.own]; rfl) rfl rfl rfl
        refine⟨Nat.zero_add 1 ▸ Tr.trans ?_ hc.1,fun hr M=>hc.2 (M.set (nQ (sj M hi) hr))⟩
        refine Tr.set p m (i:=Int.toNat i) ?_
        rfl
    · rcases e:gy p i m with ⟨d,a⟩
      rw [e] at h; exact ab e h
  · rcases e:gy p i m with ⟨d,a⟩
    rw [e] at h; exact ab e h
def sdX (m:aC) (D:List bL):aC:= { m with aa:=dC.mk m.aa.au m.aa.ay m.aa.aY m.aa.aH (Ll.mk m.aa.ag.ls) (Ll.mk D) (Ll.mk m.aa.aG.ls) }
theorem Tr.sdX (p:bQ) (m:aC) {D:List bL} (h:(List.map bL.bf D).Sublist (nD m)):Tr 1 p m p (sdX m D):=by
  have hl:=h.length_le
  simp only [nD,List.length_map] at hl
  refine⟨rfl,rfl,fun h=> ?_,Nat.le_succ _,fun k _ hk c=> ?_⟩
  · show List.length m.aB.ls+List.length D≤8; omega
  · have a:=c.2.sub (List.Sublist.refl _) h
    exact⟨⟨hk,a.1.mono (Nat.le_succ k)⟩, [],(List.append_nil _).symm,a.2⟩
theorem Cv {l:List bL} {i:Nat} {y:bL} (hy:y.bf=(List.getD l i default).bf):List.map bL.bf (List.set l i y)=List.map bL.bf l:=by
  rw [List.map_set]
  by_cases h:i < l.length
  · have:(List.map bL.bf l)[i]'(by rw [List.length_map]; exact h)=y.bf:=by rw [List.getElem_map,hy,List.getD_eq_getElem?_getD,List.getElem?_eq_getElem h]; rfl
    rw [← this]; exact List.set_getElem_self _
  · exact List.set_eq_of_length_le (by rw [List.length_map]; omega)
theorem wM (l:List Int) (c:bP):∀ (f:Nat) (a b:Int) (q:List Int),List.length (gL l c f a b q).2≤List.length q
  | 0,a,b,q=>IU _
  | f+1,a,b,q=>by
    simp only [gL,bnd]
    split
    · split
      · exact wM l c f _ _ _
      · exact Nat.le_trans (wM l c f _ _ _) (by rw [List.length_set]; exact Nat.le_refl _)
    · exact Nat.le_refl _
theorem Df (l:List Int) (c:bP):List.length (iq l c)≤List.length l:=by
  unfold iq
  simp only [bnd]
  split
  · exact Nat.le_refl _
  · rw [List.length_take]; exact Nat.le_trans (Nat.min_le_right _ _) (wM _ _ _ _ _ _)
theorem Ec {l:List bL} {n:Nat} {r:Int × Bool} (hr:bX l n=r) (h:r.2=true):Int.toNat r.1 < l.length:=by
  unfold bX at hr
  simp only [bnd] at hr
  split at hr
  · subst hr; simp only [Int.toNat_natCast]; omega
  · subst hr; cases h
theorem nT {p t:bQ} {x:bP} {m m':aC} (h:lG p x m=(t,m')):(∃ D,m'=sdX m D)∧Tr 1 p m t m'∧(Mk m→Mk m'):=by
  unfold lG at h
  simp only [bnd] at h
  rcases ef:bX m.aa.aj.ls x.bf with ⟨i,ok⟩
  rw [ef] at h
  split at h
  · rename_i hok
    have hi:=Ec ef hok
    have a:=fun M:Mk m=>M.dec _ (List.mem_of_getElem? (getD_at hi))
    generalize hy:List.getD m.aa.aj.ls (Int.toNat i) default=y at h a
    have hD:Mk m→Dk (List.set m.aa.aj.ls (Int.toNat i) (bL.mk y.bf y.aQ y.ay y.aU (Ll.mk (iq y.au.ls x)))):=fun M z hz=>by
      rcases List.mem_or_eq_of_mem_set hz with d | rfl
      · exact M.dec z d
      · have c:=a M
        exact⟨c.1,c.2.1,c.2.2.1,Nat.le_trans (Df _ _) c.2.2.2⟩
    have hmap:List.map bL.bf (List.set m.aa.aj.ls (Int.toNat i) (bL.mk y.bf y.aQ y.ay y.aU (Ll.mk (iq y.au.ls x))))=nD m:=Cv (by rw [hy])
    generalize List.set m.aa.aj.ls (Int.toNat i) (bL.mk y.bf y.aQ y.ay y.aU (Ll.mk (iq y.au.ls x)))=D at h hD hmap
    split at h
    · obtain⟨rfl,rfl⟩:=Prod.mk.inj h
      exact⟨⟨_,rfl⟩,Tr.sdX p m (hmap ▸ (qI D (Int.toNat i)).map bL.bf),fun M=>⟨M.nU,M.rF,M.pQ,M.uf,fun y hy=>hD M y ((qI _ _).subset hy),M.oO,M.act,M.lW,M.kZ,M.mg,M.mf,M.mh⟩⟩
    · obtain⟨rfl,rfl⟩:=Prod.mk.inj h
      exact⟨⟨_,rfl⟩,Tr.sdX p m (hmap ▸ List.Sublist.refl _),fun M=>⟨M.nU,M.rF,M.pQ,M.uf,hD M,M.oO,M.act,M.lW,M.kZ,M.mg,M.mf,M.mh⟩⟩
  · obtain⟨rfl,rfl⟩:=Prod.mk.inj h
    exact⟨⟨_,rfl⟩,(Tr.same p m).one,id⟩
theorem Dh (p:bQ) (x:bP) (m:aC):Tr 1 p m (mo p x m) m:=by
  unfold mo
  simp only [bnd]
  split
  · exact(Tr.decide _ _ _ _ _).one
  · split
    · exact(Tr.same p m).one
    · exact(Tr.decide _ _ _ _ _).one
theorem Lw.all {w n b:Nat} (hn:w≤n) (hb:w≤b):∀ {l:List bP} {a:Nat},a≤w→(∀ x ∈ l,x.aI=3∧x.cz=w∧x.bf=n)→Lw a b l
  | [],a,ha,_=>Nat.le_trans ha hb
  | x::l,a,ha,h=>by
    have hx:=h x (.head _)
    unfold Lw
    rw [if_pos hx.1,hx.2.1,hx.2.2]
    exact⟨ha,hn,Lw.all hn hb (Nat.le_refl _) fun y hy=>h y (.tail _ hy)⟩
theorem xS (m:aC) (i:Int) (y:dM) (x:dM):∀ (f k:Nat) (o:List bP), ∃ q,ic m i y x f k o=o++q∧List.length q≤f∧∀ z ∈ q,z.aI=3∧z.cz=gu (vC m (Int.toNat i) (dM.mk y.bq y.aW y.aK y.dA (Ll.mk y.bU.ls) (Ll.mk y.aF.ls) (Ll.mk y.bF.ls) (Ll.mk y.ae.ls) (IntKind.i64.wrap (y.ed+1))))∧z.bf=x.bq
  | 0,k,o=>⟨[],(List.append_nil _).symm,Nat.le_refl _,fun z hz=>by cases hz⟩
  | f+1,k,o=>by
    simp only [ic,bnd]
    split
    · obtain⟨q,e,hl,hq⟩:=xS m i y x f (k+1) o
      exact⟨q,e,Nat.le_succ_of_le hl,hq⟩
    · obtain⟨q,e,hl,hq⟩:=xS m i y x f (k+1) (o++ [bP.mk 3 0 (List.getD x.aF.ls k default).dX 0 0 0 0 0 x.bq (gu (vC m (Int.toNat i) (dM.mk y.bq y.aW y.aK y.dA (Ll.mk y.bU.ls) (Ll.mk y.aF.ls) (Ll.mk y.bF.ls) (Ll.mk y.ae.ls) (IntKind.i64.wrap (y.ed+1))))) 0 x.dA 0 0 0 false (bK.mk [] []) (Ll.mk (List.getD x.aF.ls k default).aD.ls) (Ll.mk []) (Ll.mk [])])
      refine⟨_::q,e.trans (by rw [List.append_assoc]; rfl),by rw [List.length_cons]; omega,fun z hz=> ?_⟩
      rcases List.mem_cons.1 hz with rfl | hz
      · exact⟨rfl,rfl,rfl⟩
      · exact hq z hz
theorem Tr.tells {p t:bQ} {m m':aC} {j n:Nat} {q:List bP} (h:Tr j p m p m') (ho:t.bE.ls=p.bE.ls++q) (hq:∀ z ∈ q,z.aI=3∧z.cz=gu m'∧z.bf=n) (hn:∀ k,Im k m→k+j≤1000000→n ∈ nA m'):Tr j p m t m':=
  ⟨h.own,h.sh,h.ad,h.la,fun k c hl hk=>by
    obtain⟨a,o,e,d⟩:=h.lw k c hl hk
    have f:lo m≤lo m':=by
      have:o= []:=by have:=congrArg List.length e; rw [List.length_append] at this; exact List.length_eq_zero_iff.1 (by omega)
      subst this; exact d
    exact⟨a,q,ho,Lw.all (a.2.le.1 n (hn k hk hl)) (Nat.le_refl _) f fun z hz=>⟨(hq z hz).1,(hq z hz).2.1.trans (Cr a),(hq z hz).2.2⟩⟩⟩
theorem qZ {p t:bQ} {n:Nat} {m m':aC} (h:kF p n m=(t,m')):m'.aa=m.aa∧Tr 0 p m t m'∧(Mk m→Mk m')∧(Mk m→List.length t.bE.ls≤List.length p.bE.ls+6):=by
  unfold kF at h
  simp only [bnd] at h
  rcases ef:dB m.aB.ls n with ⟨i,ok⟩
  rw [ef] at h
  split at h
  case isFalse=>
    obtain⟨rfl,rfl⟩:=Prod.mk.inj h
    exact⟨rfl,Tr.same p m,id,fun _=>Nat.le_add_right _ _⟩
  rename_i hok
  have hi:=BL ef hok
  generalize hy:List.getD m.aB.ls (Int.toNat i) default=y at h
  have hg:List.getD (List.set m.aB.ls (Int.toNat i) (dM.mk y.bq y.aW y.aK y.dA (Ll.mk y.bU.ls) (Ll.mk y.aF.ls) (Ll.mk y.bF.ls) (Ll.mk y.ae.ls) (IntKind.i64.wrap (y.ed+1)))) (Int.toNat i) default=dM.mk y.bq y.aW y.aK y.dA (Ll.mk y.bU.ls) (Ll.mk y.aF.ls) (Ll.mk y.bF.ls) (Ll.mk y.ae.ls) (IntKind.i64.wrap (y.ed+1)):=by
    rw [List.getD_eq_getElem?_getD,List.getElem?_set_self hi]; rfl
  rw [hg] at h
  have hs:=Tr.set p m (i:=Int.toNat i) (y:=dM.mk y.bq y.aW y.aK y.dA (Ll.mk y.bU.ls) (Ll.mk y.aF.ls) (Ll.mk y.bF.ls) (Ll.mk y.ae.ls) (IntKind.i64.wrap (y.ed+1))) (by rw [hy])
  have hm:=fun M:Mk m=>M.set (i:=Int.toNat i) (pK (hy ▸ sj M hi) (IntKind.i64.wrap (y.ed+1)))
  split at h
  · rcases e:gy p i (vC m (Int.toNat i) (dM.mk y.bq y.aW y.aK y.dA (Ll.mk y.bU.ls) (Ll.mk y.aF.ls) (Ll.mk y.bF.ls) (Ll.mk y.ae.ls) (IntKind.i64.wrap (y.ed+1)))) with ⟨d,f⟩
    have e':=e
    unfold vC at e'
    rw [e'] at h
    have ha:=uy (by unfold vC; simp only [List.length_set]; exact hi) e
    obtain⟨rfl,a⟩:=Prod.mk.inj h
    obtain rfl:=sK a (by rw [ha.1]; rfl) (by rw [ha.1]; rfl) (by rw [ha.1]; rfl) rfl
    refine⟨ha.1,hs.trans ha.2.1,fun M=>ha.2.2.1 (hm M),fun M=> ?_⟩
    rw [ha.2.2.2]
    have c:=(sj (hm M) (i:=Int.toNat i) (by unfold vC; simp only [List.length_set]; exact hi)).len
    exact Nat.add_le_add_left c (List.length p.bE.ls+1)
  · obtain⟨rfl,rfl⟩:=Prod.mk.inj h
    obtain⟨q,e,hl,hq⟩:=xS m i y (dM.mk y.bq y.aW y.aK y.dA (Ll.mk y.bU.ls) (Ll.mk y.aF.ls) (Ll.mk y.bF.ls) (Ll.mk y.ae.ls) (IntKind.i64.wrap (y.ed+1))) (List.length y.aF.ls) 0 p.bE.ls
    refine⟨rfl,hs.tells e hq fun k _ _=>List.mem_map.2 ⟨_,List.mem_of_getElem? (List.getElem?_set_self hi),rfl⟩,hm,fun M=> ?_⟩
    show List.length (ic _ _ _ _ _ _ _)≤_
    rw [e,List.length_append]
    have c:=(sj M hi).len
    rw [hy] at c; omega
end Go.Proofs.YtbkagebjhbphaaaGreat
