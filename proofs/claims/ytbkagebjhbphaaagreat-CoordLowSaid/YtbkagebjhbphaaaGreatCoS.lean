/-
  What a step does to the coordinator: what stays, which numbers there are, which Low is told. Conditions: none beyond each law's own.
-/
import Derived.Test.YtbkagebjhbphaaaGreatCh
import Derived.Test.YtbkagebjhbphaaaGreatCi
import Derived.Test.YtbkagebjhbphaaaGreatCj
namespace Go.Proofs.YtbkagebjhbphaaaGreat
set_option linter.unusedVariables false
set_option linter.unusedSimpArgs false
def Lw:Nat→Nat→List bQ→Prop
  | a,b, []=>a≤b
  | a,b,x::r=>if x.aM=3 then a≤x.di∧x.di≤x.bf∧Lw x.di b r else Lw a b r
theorem Lw.app {b c:Nat} {r:List bQ} (d:Lw b c r):∀ {l:List bQ} {a:Nat},Lw a b l→Lw a c (l++r)
  | [],a,h=>by
    revert a
    induction r generalizing b with
    | nil=>exact fun a h=>Nat.le_trans h d
    | cons x r ih=>
      intro a h
      simp only [List.nil_append,Lw] at h d ⊢
      by_cases e:x.aM=3
      · rw [if_pos e] at d ⊢; exact⟨Nat.le_trans h d.1,d.2⟩
      · rw [if_neg e] at d ⊢; exact ih d a h
  | x::l,a,h=>by
    simp only [List.cons_append,Lw] at h ⊢
    by_cases e:x.aM=3
    · rw [if_pos e] at h ⊢; exact⟨h.1,h.2.1,Lw.app d h.2.2⟩
    · rw [if_neg e] at h ⊢; exact Lw.app d h
theorem GJ {a b:Nat} (hab:a≤b):∀ {l:List bQ},(∀ x ∈ l,x.aM≠3)→Lw a b l
  | [],_=>hab
  | x::l,h=>by unfold Lw; rw [if_neg (h x (.head _))]; exact GJ hab fun y hy=>h y (.tail _ hy)
def hdN (n:Nat):List Nat→Nat
  | []=>n
  | x::_=>min n x
def rE (b g:Nat) (A D:List Nat):Nat:=hdN (hdN (b *4294967296+g+1) A) D
structure Iv (k b g:Nat) (A D:List Nat):Prop where
  bt:b < 2147483648
  bg:g≤k
  sA:List.Pairwise (· ≤ ·) A
  sD:List.Pairwise (· ≤ ·) D
  lA:∀ x ∈ A,x≤b *4294967296+g
  lD:∀ x ∈ D,x≤b *4294967296+g
theorem zy (n:Nat) (l:List Nat):hdN n l≤n:=by cases l with
  | nil=>exact Nat.le_refl _
  | cons x l=>exact Nat.min_le_left _ _
theorem Au {n:Nat} {l:List Nat} (h:List.Pairwise (· ≤ ·) l):∀ x ∈ l,hdN n l≤x:=by cases l with
  | nil=>intro x hx; cases hx
  | cons y l=>
    intro x hx
    refine Nat.le_trans (Nat.min_le_right _ _) ?_
    rcases List.mem_cons.1 hx with rfl | hx
    · exact Nat.le_refl _
    · exact(List.pairwise_cons.1 h).1 x hx
theorem BI {a n:Nat} {l:List Nat} (h:a≤n) (hl:∀ x ∈ l,a≤x):a≤hdN n l:=by cases l with
  | nil=>exact h
  | cons y l=>exact Nat.le_min.2 ⟨h,hl y (.head _)⟩
section
variable {k b g:Nat} {A D:List Nat}
theorem Iv.le (h:Iv k b g A D):(∀ x ∈ A,rE b g A D≤x)∧(∀ x ∈ D,rE b g A D≤x)∧rE b g A D≤b *4294967296+g+1:=
  ⟨fun x hx=>Nat.le_trans (zy _ _) (Au h.sA x hx),Au h.sD,Nat.le_trans (zy _ _) (zy _ _)⟩
theorem yG {a:Nat} (h:a≤b *4294967296+g+1) (hA:∀ x ∈ A,a≤x) (hD:∀ x ∈ D,a≤x):a≤rE b g A D:=BI (BI h hA) hD
theorem Iv.mono {j:Nat} (h:Iv k b g A D) (hj:k≤j):Iv j b g A D:=⟨h.bt,Nat.le_trans h.bg hj,h.sA,h.sD,h.lA,h.lD⟩
theorem Iv.sub {A' D':List Nat} (h:Iv k b g A D) (hA:A'.Sublist A) (hD:D'.Sublist D):Iv k b g A' D'∧rE b g A D≤rE b g A' D':=
  ⟨⟨h.bt,h.bg,h.sA.sublist hA,h.sD.sublist hD,fun x hx=>h.lA x (hA.subset hx),fun x hx=>h.lD x (hD.subset hx)⟩,yG h.le.2.2 (fun x hx=>h.le.1 x (hA.subset hx)) (fun x hx=>h.le.2.1 x (hD.subset hx))⟩
theorem Iv.more (h:Iv k b g A D):Iv (k+1) b (g+1) (A++ [b *4294967296+g+1]) D∧Iv (k+1) b (g+1) A D∧rE b g A D≤rE b (g+1) (A++ [b *4294967296+g+1]) D∧rE b g A D≤rE b (g+1) A D:=by
  have hle:=h.le
  refine⟨⟨h.bt,Nat.succ_le_succ h.bg,List.pairwise_append.2 ⟨h.sA,List.pairwise_singleton _ _,fun x hx y hy=> ?_⟩,h.sD,fun x hx=> ?_,fun x hx=>Nat.le_trans (h.lD x hx) (by omega)⟩,⟨h.bt,Nat.succ_le_succ h.bg,h.sA,h.sD,fun x hx=>Nat.le_trans (h.lA x hx) (by omega),fun x hx=>Nat.le_trans (h.lD x hx) (by omega)⟩,yG (by omega) (fun x hx=> ?_) hle.2.1,yG (by omega) hle.1 hle.2.1⟩
  · have a:=h.lA x hx; have c:=List.mem_singleton.1 hy; omega
  · rcases List.mem_append.1 hx with a | a
    · have:=h.lA x a; omega
    · have:=List.mem_singleton.1 a; omega
  · rcases List.mem_append.1 hx with a | a
    · exact hle.1 x a
    · rw [List.mem_singleton.1 a]; exact hle.2.2
theorem Iv.ins {i n:Nat} (h:Iv k b g A D) (hn:n≤b *4294967296+g) (c:∀ x ∈ D.take i,x≤n) (d:∀ x ∈ D.drop i,n≤x) (hl:rE b g A D≤n) (A':List Nat) (hA:A'.Sublist A):Iv k b g A' (D.take i++n::D.drop i)∧rE b g A D≤rE b g A' (D.take i++n::D.drop i):=by
  have hm:∀ x ∈ D.take i++n::D.drop i,x=n∨x ∈ D:=fun x hx=>by
    rcases List.mem_append.1 hx with a | a
    · exact .inr (List.mem_of_mem_take a)
    · rcases List.mem_cons.1 a with a | a
      · exact .inl a
      · exact .inr (List.mem_of_mem_drop a)
  refine⟨⟨h.bt,h.bg,h.sA.sublist hA,List.pairwise_append.2 ⟨h.sD.sublist (List.take_sublist _ _),List.pairwise_cons.2 ⟨d,h.sD.sublist (List.drop_sublist _ _)⟩,fun x hx y hy=> ?_⟩,fun x hx=>h.lA x (hA.subset hx),fun x hx=> ?_⟩,yG h.le.2.2 (fun x hx=>h.le.1 x (hA.subset hx)) (fun x hx=> ?_)⟩
  · rcases List.mem_cons.1 hy with rfl | hy
    · exact c x hx
    · exact Nat.le_trans (c x hx) (d y hy)
  · rcases hm x hx with rfl | a
    · exact hn
    · exact h.lD x a
  · rcases hm x hx with rfl | a
    · exact hl
    · exact h.le.2.1 x a
end
def nA (m:aB):List Nat:=List.map dH.bq m.aA.ls
def nD (m:aB):List Nat:=List.map bL.bf m.aa.aj.ls
def lo (m:aB):Nat:=rE m.aa.ax m.bH (nA m) (nD m)
def Im (k:Nat) (m:aB):Prop:=k≤1000000∧Iv k m.aa.ax m.bH (nA m) (nD m)
theorem yh {k:Nat} {m:aB} (h:Im k m):gX m=m.aa.ax *4294967296+m.bH+1:=by
  have d:=h.2.bt
  have e:=h.2.bg
  have f:=h.1
  have a:eQ m.aa.ax 32=m.aa.ax *4294967296:=by unfold eQ; rw [show min 32 64=32 from rfl,show ((2:Int) ^ 32)=4294967296 from rfl,IntWalk.u64_in _ (by omega)]; omega
  have c:IntKind.u64.wrap (((m.aa.ax *4294967296:Nat):Int)+((m.bH:Nat):Int))=((m.aa.ax *4294967296+m.bH:Nat):Int):=by rw [IntWalk.u64_in _ (by omega)]; omega
  unfold gX
  rw [a,c,Int.toNat_natCast,IntWalk.u64_in _ (by omega)]
  omega
theorem Av {α:Type} [Inhabited α] (f:α→Nat) (N:Nat) (A:List α):(if((List.length A:Nat):Int) > 0 then bnd (List.getD A 0 default) fun y=>min N (f y) else N)=hdN N (List.map f A):=by
  cases A with
  | nil=>exact if_neg (by simp only [List.length_nil]; omega)
  | cons a A=>exact if_pos (by simp only [List.length_cons]; omega)
def Cq (N:Nat) (a:aB):Nat:=bnd N fun y=>bnd (if((List.length a.aA.ls:Nat):Int) > 0 then bnd (List.getD a.aA.ls 0 default) fun x=>min y x.bq else y) fun s=>if((List.length a.aa.aj.ls:Nat):Int) > 0 then bnd (List.getD a.aa.aj.ls 0 default) fun x=>min s x.bf else s
theorem De (N:Nat) (m:aB):Cq N m=hdN (hdN N (nA m)) (nD m):=(Av bL.bf _ _).trans (congrArg (fun q=>hdN q (nD m)) (Av dH.bq _ _))
theorem BJ (m:aB):gy m=Cq (gX m) m:=by unfold gy Cq; exact Eq.refl _
theorem Cr {k:Nat} {m:aB} (h:Im k m):gy m=lo m:=by rw [BJ,yh h,De]; rfl
structure Tr (j:Nat) (p:bO) (m:aB) (t:bO) (m':aB):Prop where
  own:m'.aa.ag.ls=m.aa.ag.ls
  sh:m'.aa.ak=m.aa.ak
  ad:List.length m.aA.ls+List.length m.aa.aj.ls≤8→List.length m'.aA.ls+List.length m'.aa.aj.ls≤8
  la:List.length m'.aa.aF.ls≤List.length m.aa.aF.ls+j
  lw:∀ k,Im (k+j) m→k+j≤1000000→Im k m→Im (k+j) m'∧∃ o,t.bE.ls=p.bE.ls++o∧Lw (lo m) (lo m') o
theorem Tr.same (p:bO) (m:aB):Tr 0 p m p m:=⟨rfl,rfl,id,Nat.le_refl _,fun k h _ _=>⟨h, [],(List.append_nil _).symm,Nat.le_refl _⟩⟩
theorem Im.mono {k j:Nat} {m:aB} (h:Im k m) (hj:k≤j) (hl:j≤1000000):Im j m:=⟨hl,h.2.mono hj⟩
theorem Tr.trans {i j:Nat} {p t u:bO} {m d e:aB} (a:Tr i p m t d) (c:Tr j t d u e):Tr (i+j) p m u e:=
  ⟨c.own.trans a.own,c.sh.trans a.sh,fun h=>c.ad (a.ad h),by have:=a.la; have:=c.la; omega,fun k _ hl hk=>by
    obtain⟨f,l,n,o⟩:=a.lw k (hk.mono (by omega) (by omega)) (by omega) hk
    obtain⟨q,r,s,v⟩:=c.lw (k+i) (f.mono (by omega) (by omega)) (by omega) f
    exact⟨Nat.add_assoc k i j ▸ q,l++r,by rw [s,n,List.append_assoc],v.app o⟩⟩
theorem Tr.one {p t:bO} {m m':aB} (h:Tr 0 p m t m'):Tr 1 p m t m':=⟨h.own,h.sh,h.ad,Nat.le_succ_of_le h.la,fun k _ hl hk=>by
  obtain⟨a,c,d,e⟩:=h.lw k hk (by omega) hk
  exact⟨a.mono (by omega) hl,c,d,e⟩⟩
theorem GH {p t:bO} {m m':aB} {o:List bQ} (hs:m'.aa=m.aa) (ha:nA m'=nA m) (hb:m'.bH=m.bH) (ho:t.bE.ls=p.bE.ls++o) (hk:∀ x ∈ o,x.aM≠3):Tr 0 p m t m':=by
  have hl:List.length m'.aA.ls=List.length m.aA.ls:=by have:=congrArg List.length ha; simp only [nA,List.length_map] at this; exact this
  have e:lo m'=lo m:=by unfold lo nD; rw [hs,ha,hb]
  refine⟨by rw [hs],by rw [hs],by rw [hs,hl]; exact id,by rw [hs]; exact Nat.le_refl _,fun k h _ _=>⟨?_,o,ho,GJ (Nat.le_of_eq e.symm) hk⟩⟩
  unfold Im nD at h ⊢; rw [hs,ha,hb]; exact h
theorem zz (p:bO) (x:bQ):∃ y,(dB p x).bE.ls=p.bE.ls++ [y]∧y.aM=x.aM∧y.di=x.di∧y.bf=x.bf:=⟨_,rfl,rfl,rfl,rfl⟩
theorem qH {p t:bO} {c:Int} {q:Nat} {k:Int} {l:List aX} {m m':aB} (h:dX p c q k l m=(t,m')):m'.aa=m.aa∧m'.aA.ls=m.aA.ls∧m'.bH=m.bH∧(∃ x,t.bE.ls=p.bE.ls++ [x]∧x.aM=2)∧(mJ l→jy q→Mk m→Mk m'):=by
  unfold dX jb at h
  simp only [bnd] at h
  split at h
  · obtain⟨rfl,rfl⟩:=Prod.mk.inj h
    exact⟨rfl,rfl,rfl,⟨_,rfl,rfl⟩,fun hl hq M=>⟨M.nT,M.rF,M.pQ,M.tY,M.dec,M.oO,M.act,M.lX,⟨hl,hq⟩,M.ma,M.mg,M.mf⟩⟩
  split at h
  · obtain⟨rfl,rfl⟩:=Prod.mk.inj h
    exact⟨rfl,rfl,rfl,⟨_,rfl,rfl⟩,fun hl hq M=>⟨M.nT,M.rF,M.pQ,M.tY,M.dec,M.oO,M.act,M.lX,M.kZ,⟨hl,hq⟩,M.mg,M.mf⟩⟩
  split at h
  · obtain⟨rfl,rfl⟩:=Prod.mk.inj h
    exact⟨rfl,rfl,rfl,⟨_,rfl,rfl⟩,fun hl hq M=>⟨M.nT,M.rF,M.pQ,M.tY,M.dec,M.oO,M.act,M.lX,M.kZ,M.ma,⟨hl,hq⟩,M.mf⟩⟩
  · obtain⟨rfl,rfl⟩:=Prod.mk.inj h
    exact⟨rfl,rfl,rfl,⟨_,rfl,rfl⟩,fun hl hq M=>⟨M.nT,M.rF,M.pQ,M.tY,M.dec,M.oO,M.act,M.lX,M.kZ,M.ma,M.mg,⟨hl,hq⟩⟩⟩
theorem zA (n:Nat) (f:Bool):∀ (l:List Int) (o:List bQ), ∃ q,gP n f l o=o++q∧∀ x ∈ q,x.aM=5
  | [],o=>⟨[],(List.append_nil _).symm,fun x hx=>by cases hx⟩
  | s::l,o=>by
    simp only [gP,bnd]
    obtain⟨y,e,hk,_⟩:=zz (bO.mk (Ll.mk o)) (bQ.mk 5 0 s 0 0 0 0 0 n 0 0 0 0 0 0 f (bK.mk [] []) (Ll.mk []) (Ll.mk []) (Ll.mk []))
    rw [e]
    obtain⟨q,a,c⟩:=zA n f l (o++ [y])
    refine⟨y::q,by rw [a,List.append_assoc]; rfl,fun x hx=> ?_⟩
    rcases List.mem_cons.1 hx with rfl | hx
    · exact hk
    · exact c x hx
theorem xw (p:bO) (n:Nat) (l:List Int) (f:Bool):∃ q,(fq p n l f).bE.ls=p.bE.ls++q∧∀ x ∈ q,x.aM=5:=by
  obtain⟨q,e,h⟩:=zA n f l p.bE.ls
  exact⟨q,by unfold fq; simp only [bnd]; exact e,h⟩
theorem Tr.decide (p:bO) (n:Nat) (l:List Int) (f:Bool) (m:aB):Tr 0 p m (fq p n l f) m:=by
  obtain⟨q,e,h⟩:=xw p n l f
  exact GH rfl rfl rfl e (fun x hx=>by rw [h x hx]; decide)
theorem Tr.answer {p t:bO} {c:Int} {q:Nat} {k:Int} {l:List aX} {m m':aB} (h:dX p c q k l m=(t,m')):Tr 0 p m t m':=by
  obtain⟨a,d,f,⟨x,e,hx⟩,i⟩:=qH h
  exact GH a (by unfold nA; rw [d]) f e (fun y hy=>by rw [List.mem_singleton.1 hy,hx]; decide)
theorem Em {m':aB} {o:List bv} {d:List bL} {l:List fF} {a:List dH} (c:m'.aa.ag.ls=o) (e:m'.aa.aj.ls=d) (f:m'.aa.aF.ls=l) (h:m'.aA.ls=a):aB.mk (dA.mk m'.aa.ak m'.aa.ax m'.aa.bi m'.aa.aI (Ll.mk o) (Ll.mk d) (Ll.mk l)) m'.bH (Ll.mk a) m'.aQ m'.aO m'.aL m'.aN m'.aK m'.df m'.cu m'.cz m'.cB m'.cK=m':=by subst c e f h; rfl
theorem sK {c m':aB} {o:List bv} {d:List bL} {l:List fF} {a:List dH} (h:aB.mk (dA.mk c.aa.ak c.aa.ax c.aa.bi c.aa.aI (Ll.mk o) (Ll.mk d) (Ll.mk l)) c.bH (Ll.mk a) c.aQ c.aO c.aL c.aN c.aK c.df c.cu c.cz c.cB c.cK=m') (e:c.aa.ag.ls=o) (f:c.aa.aj.ls=d) (i:c.aa.aF.ls=l) (j:c.aA.ls=a):c=m':=(Em e f i j).symm.trans h
theorem getD_at {α:Type} [Inhabited α] {l:List α} {i:Nat} (h:i < l.length):l[i]? =some (List.getD l i default):=by
  rw [List.getD_eq_getElem?_getD,List.getElem?_eq_getElem h]; rfl
def yj (m:aB) (i:Nat):aB:= { m with aA:=Ll.mk (List.take i m.aA.ls++List.drop (i+1) m.aA.ls) }
theorem qI {α:Type} (l:List α) (i:Nat):(List.take i l++List.drop (i+1) l).Sublist l:=by
  have h:(List.drop (i+1) l).Sublist (List.drop i l):=by rw [← List.tail_drop]; exact List.tail_sublist _
  have:=(List.Sublist.refl (List.take i l)).append h
  rwa [List.take_append_drop] at this
theorem Mk.cut {m:aB} (M:Mk m) (i:Nat):Mk (yj m i):=⟨M.nT,M.rF,M.pQ,M.tY,M.dec,M.oO,fun x hx=>M.act x ((qI _ _).subset hx),M.lX,M.kZ,M.ma,M.mg,M.mf⟩
theorem Tr.cut (p:bO) (m:aB) (i:Nat):Tr 0 p m p (yj m i):=by
  have hs:=qI m.aA.ls i
  have hA:nA (yj m i)=List.take i (nA m)++List.drop (i+1) (nA m):=by simp only [nA,yj,List.map_append,List.map_take,List.map_drop]
  refine⟨rfl,rfl,fun h=> ?_,Nat.le_refl _,fun k h _ _=> ?_⟩
  · have:=hs.length_le; simp only [yj]; omega
  · have a:=h.2.sub (A':=nA (yj m i)) (hA ▸ qI (nA m) i) (List.Sublist.refl _)
    exact⟨⟨h.1,a.1⟩, [],(List.append_nil _).symm,a.2⟩
theorem sj {m:aB} (M:Mk m) {i:Nat} (hi:i < m.aA.ls.length):Tok (List.getD m.aA.ls i default):=M.act _ (List.mem_of_getElem? (getD_at hi))
theorem xx (l:List fV):List.length (gF l [])=List.length l:=(zx l []).trans (Nat.zero_add _)
theorem uu {p t:bO} {i:Int} {m m':aB} (hi:Int.toNat i < m.aA.ls.length) (h:gz p i m=(t,m')):m'.aa=m.aa∧Tr 0 p m t m'∧(Mk m→Mk m')∧List.length t.bE.ls=List.length p.bE.ls+1+List.length (List.getD m.aA.ls (Int.toNat i) default).aC.ls:=by
  unfold gz at h
  simp only [bnd] at h
  rcases e:dX p (List.getD m.aA.ls (Int.toNat i) default).aW (List.getD m.aA.ls (Int.toNat i) default).aH 2 [] (yj m (Int.toNat i)) with ⟨c,d⟩
  have e':=e
  unfold yj at e'
  rw [e'] at h
  have ha:=qH e
  obtain⟨rfl,a⟩:=Prod.mk.inj h
  obtain rfl:=sK a (by rw [ha.1]; rfl) (by rw [ha.1]; rfl) (by rw [ha.1]; rfl) (by rw [ha.2.1]; rfl)
  exact⟨ha.1,(Tr.cut p m (Int.toNat i)).trans ((Tr.answer e).trans (Tr.decide _ _ _ _ _)),fun M=>ha.2.2.2.2 mh (sj M hi).sw (M.cut _),by
    obtain⟨x,e,_⟩:=ha.2.2.2.1
    rw [xq rfl,e,List.length_append,List.length_singleton]
    simp only [kg,bnd]; rw [xx]⟩
theorem BK (a b:Nat):gY a b < 0↔a < b:=by
  unfold gY lF
  simp only [bnd]
  by_cases h:((a:Nat):Int) < ((b:Nat):Int)
  · simp [h]; omega
  · by_cases c:((a:Nat):Int) > ((b:Nat):Int) <;> simp [h,c] <;> omega
theorem zB {l:List bL} {n:Nat} (hs:∀ i j:Nat,i≤j→j < l.length→(List.getD l i default).bf≤(List.getD l j default).bf):∀ (f a b:Nat),a≤b→b≤l.length→b - a < f→(∀ i,i < a→(List.getD l i default).bf < n)→(∀ i,b≤i→i < l.length→n≤(List.getD l i default).bf)→
    ∃ r,dE l n f a b=r∧r≤l.length∧(∀ i,i < r→(List.getD l i default).bf < n)∧(∀ i,r≤i→i < l.length→n≤(List.getD l i default).bf)
  | 0,a,b,_,_,h,_,_=>by omega
  | f+1,a,b,hab,hb,hf,c,d=>by
    simp only [dE,bnd]
    by_cases hlt:((a:Nat):Int) < ((b:Nat):Int)
    · rw [if_pos hlt]
      by_cases hc:gY (List.getD l ((a+b) / 2) default).bf n < 0
      · rw [if_pos hc]
        rw [BK] at hc
        exact zB hs f _ _ (by omega) hb (by omega) (fun i hi=>Nat.lt_of_le_of_lt (hs i ((a+b) / 2) (by omega) (by omega)) hc) d
      · rw [if_neg hc]
        rw [BK] at hc
        exact zB hs f _ _ (by omega) (by omega) (by omega) c (fun i hi hl=>Nat.le_trans (Nat.le_of_not_lt hc) (hs ((a+b) / 2) i hi hl))
    · rw [if_neg hlt]
      exact⟨a,rfl,by omega,c,fun i hi hl=>d i (by omega) hl⟩
theorem Cs {l:List bL} (h:List.Pairwise (· ≤ ·) (List.map bL.bf l)) (i j:Nat) (hij:i≤j) (hj:j < l.length):(List.getD l i default).bf≤(List.getD l j default).bf:=by
  rcases Nat.lt_or_eq_of_le hij with a | rfl
  · have:=List.pairwise_iff_getElem.1 h i j (by rw [List.length_map]; omega) (by rw [List.length_map]; omega) a
    rw [List.getElem_map,List.getElem_map] at this
    rw [List.getD_eq_getElem?_getD,List.getD_eq_getElem?_getD,List.getElem?_eq_getElem (by omega),List.getElem?_eq_getElem hj]
    exact this
  · exact Nat.le_refl _
theorem Ct {l:List bL} {n:Nat} {r:Int × Bool} (hr:bU l n=r) (h:List.Pairwise (· ≤ ·) (List.map bL.bf l)):(∀ x ∈ List.take (Int.toNat r.1) (List.map bL.bf l),x≤n)∧(∀ x ∈ List.drop (Int.toNat r.1) (List.map bL.bf l),n≤x):=by
  obtain⟨q,e,hl,a,c⟩:=zB (Cs h) ((l.length - 0)+1) 0 l.length (IU _) (Nat.le_refl _) (by omega) (fun i hi=>by omega) (fun i hi hl=>by omega)
  have hq:Int.toNat r.1=q:=by
    rw [← hr]; unfold bU
    simp only [bnd]
    rw [e]
    split <;> rfl
  rw [hq]
  have at_:∀ i (hi:i < l.length),(List.map bL.bf l)[i]'(by rw [List.length_map]; exact hi)=(List.getD l i default).bf:=fun i hi=>by
    rw [List.getElem_map,List.getD_eq_getElem?_getD,List.getElem?_eq_getElem hi]; rfl
  refine⟨fun x hx=> ?_,fun x hx=> ?_⟩
  · obtain⟨i,hi,rfl⟩:=List.mem_take_iff_getElem.1 hx
    rw [List.length_map] at hi
    rw [at_ i (by omega)]
    exact Nat.le_of_lt (a i (by omega))
  · obtain⟨i,hi,rfl⟩:=List.mem_drop_iff_getElem.1 hx
    rw [List.length_map] at hi
    rw [at_ (q+i) (by omega)]
    exact c _ (by omega) (by omega)
def qm (m:aB) (i j:Nat) (d:bL) (L:List fF):aB:= { m with aa:=dA.mk m.aa.ak m.aa.ax m.aa.bi m.aa.aI (Ll.mk m.aa.ag.ls) (Ll.mk (List.take j m.aa.aj.ls++(d::List.drop j m.aa.aj.ls))) (Ll.mk L),aA:=Ll.mk (List.take i m.aA.ls++List.drop (i+1) m.aA.ls) }
theorem Tr.com (p:bO) (m:aB) {i j:Nat} {d:bL} {L:List fF} (hi:i < m.aA.ls.length) (hd:d.bf=(List.getD m.aA.ls i default).bq) (hL:List.length L≤List.length m.aa.aF.ls+1)
    (hj:List.Pairwise (· ≤ ·) (nD m)→(∀ x ∈ List.take j (nD m),x≤d.bf)∧(∀ x ∈ List.drop j (nD m),d.bf≤x)):Tr 1 p m p (qm m i j d L):=by
  have hA:nA (qm m i j d L)=List.take i (nA m)++List.drop (i+1) (nA m):=by simp only [nA,qm,List.map_append,List.map_take,List.map_drop]
  have hD:nD (qm m i j d L)=List.take j (nD m)++d.bf::List.drop j (nD m):=by simp only [nD,qm,List.map_append,List.map_cons,List.map_take,List.map_drop]
  have hm:d.bf ∈ nA m:=by rw [hd]; exact List.mem_map.2 ⟨_,List.mem_of_getElem? (getD_at hi),rfl⟩
  refine⟨rfl,rfl,fun h=> ?_,hL,fun k _ hl h=> ?_⟩
  · simp only [qm,List.length_append,List.length_take,List.length_drop,List.length_cons]; omega
  · have a:=h.2.ins (h.2.lA _ hm) (hj h.2.sD).1 (hj h.2.sD).2 (h.2.le.1 _ hm) (nA (qm m i j d L)) (hA ▸ qI (nA m) i)
    rw [← hD] at a
    exact⟨⟨hl,a.1.mono (Nat.le_succ k)⟩, [],(List.append_nil _).symm,a.2⟩
theorem Mk.com {m:aB} (M:Mk m) {i j:Nat} {d:bL} {L:List fF} (hd:jy d.bf∧jy d.ax∧jy d.aY∧List.length d.ak.ls≤1000) (hL:∀ x ∈ L,jy x.ax∧jy x.aY∧mJ x.ai.ls):Mk (qm m i j d L):=
  ⟨M.nT,M.rF,M.pQ,M.tY,fun x hx=>by
    rcases List.mem_append.1 hx with h | h
    · exact M.dec x (List.mem_of_mem_take h)
    · rcases List.mem_cons.1 h with rfl | h
      · exact hd
      · exact M.dec x (List.mem_of_mem_drop h),hL,fun x hx=>M.act x ((qI _ _).subset hx),M.lX,M.kZ,M.ma,M.mg,M.mf⟩
set_option maxHeartbeats 2000000 in
theorem zQ {p t:bO} {i:Int} {m m':aB} (hi:Int.toNat i < m.aA.ls.length) (h:lg p i m=(t,m')):Tr 1 p m t m'∧(Mk m→Mk m'):=by
  unfold lg at h
  simp only [bnd,kg] at h
  have hT:=fun M:Mk m=>sj M hi
  generalize hy:List.getD m.aA.ls (Int.toNat i) default=y at h hT
  rcases eg:nk y.bS.ls y.aC.ls y.ae.ls with ⟨rs,ge⟩
  rw [eg] at h
  have hgr:=fun M:Mk m=>xn eg (hT M).ops.1 (hT M).ops.2 (hT M).AO
  rcases es:bU m.aa.aj.ls y.bq with ⟨j,oj⟩
  rcases el:il m.aa.aF.ls y.aW with ⟨q,oq⟩
  rw [es,el] at h
  obtain⟨sl,hsl⟩:∃ sl,gF y.aC.ls []=sl:=⟨_,rfl⟩
  rw [hsl] at h
  have hds:=fun M:Mk m=>(show jy y.bq∧jy m.aa.ax∧jy y.aH∧List.length sl≤1000 from ⟨(hT M).num,M.nT,(hT M).sw,by have:=(hT M).len; rw [← hsl,xx]; omega⟩)
  have go:∀ {L:List fF} {f:bO} {c:aB},dX p y.aW y.aH 1 rs (qm m (Int.toNat i) (Int.toNat j) (bL.mk y.bq y.aW m.aa.ax y.aH (Ll.mk sl)) L)=(f,c)→List.length L≤List.length m.aa.aF.ls+1→(Mk m→∀ x ∈ L,jy x.ax∧jy x.aY∧mJ x.ai.ls)→Tr 1 p m (fq f y.bq sl true) c∧(Mk m→Mk c):=fun {L f c} e hL hM=>by
    have ha:=qH e
    have hc:Tr 1 p m p (qm m (Int.toNat i) (Int.toNat j) (bL.mk y.bq y.aW m.aa.ax y.aH (Ll.mk sl)) L):=Tr.com p m hi (by rw [hy]) hL fun hp=>Ct es hp
    exact⟨hc.trans ((Tr.answer e).trans (Tr.decide _ _ _ _ _)),fun M=>ha.2.2.2.2 (hgr M) (hT M).sw (M.com (hds M) (hM M))⟩
  split at h
  · split at h
    · rcases e:dX p y.aW y.aH 1 rs (qm m (Int.toNat i) (Int.toNat j) (bL.mk y.bq y.aW m.aa.ax y.aH (Ll.mk sl)) (List.set m.aa.aF.ls (Int.toNat q) (fF.mk y.aW m.aa.ax y.aH (Ll.mk rs)))) with ⟨f,c⟩
      have ha:=qH e
      have e':=e
      unfold qm at e'
      rw [e'] at h
      obtain⟨rfl,a⟩:=Prod.mk.inj h
      obtain rfl:=sK a (by rw [ha.1]; rfl) (by rw [ha.1]; rfl) (by rw [ha.1]; rfl) (by rw [ha.2.1]; rfl)
      refine go e (by rw [List.length_set]; omega) fun M x hx=> ?_
      rcases List.mem_or_eq_of_mem_set hx with d | rfl
      · exact M.oO x d
      · exact⟨M.nT,(hT M).sw,hgr M⟩
    · rcases e:dX p y.aW y.aH 1 rs (qm m (Int.toNat i) (Int.toNat j) (bL.mk y.bq y.aW m.aa.ax y.aH (Ll.mk sl)) (List.take (Int.toNat q) m.aa.aF.ls++((fF.mk y.aW m.aa.ax y.aH (Ll.mk rs))::List.drop (Int.toNat q) m.aa.aF.ls))) with ⟨f,c⟩
      have ha:=qH e
      have e':=e
      unfold qm at e'
      rw [e'] at h
      obtain⟨rfl,a⟩:=Prod.mk.inj h
      obtain rfl:=sK a (by rw [ha.1]; rfl) (by rw [ha.1]; rfl) (by rw [ha.1]; rfl) (by rw [ha.2.1]; rfl)
      refine go e (by rw [List.length_append,List.length_cons,List.length_take,List.length_drop]; omega) fun M x hx=> ?_
      rcases List.mem_append.1 hx with d | d
      · exact M.oO x (List.mem_of_mem_take d)
      · rcases List.mem_cons.1 d with rfl | d
        · exact⟨M.nT,(hT M).sw,hgr M⟩
        · exact M.oO x (List.mem_of_mem_drop d)
  · rcases e:gz p i m with ⟨f,c⟩
    rw [e] at h
    have ha:=uu hi e
    obtain⟨rfl,a⟩:=Prod.mk.inj h
    obtain rfl:=sK a (by rw [ha.1]) (by rw [ha.1]) (by rw [ha.1]) rfl
    exact⟨ha.2.1.one,ha.2.2.1⟩
def vz (m:aB) (i:Nat) (y:dH):aB:= { m with aA:=Ll.mk (List.set m.aA.ls i y) }
theorem Cu {l:List dH} {i:Nat} {y:dH} (hy:y.bq=(List.getD l i default).bq):List.map dH.bq (List.set l i y)=List.map dH.bq l:=by
  rw [List.map_set]
  by_cases h:i < l.length
  · have:(List.map dH.bq l)[i]'(by rw [List.length_map]; exact h)=y.bq:=by rw [List.getElem_map,hy,List.getD_eq_getElem?_getD,List.getElem?_eq_getElem h]; rfl
    rw [← this]; exact List.set_getElem_self _
  · exact List.set_eq_of_length_le (by rw [List.length_map]; omega)
theorem Tr.set (p:bO) (m:aB) {i:Nat} {y:dH} (hy:y.bq=(List.getD m.aA.ls i default).bq):Tr 0 p m p (vz m i y):=GH rfl (Cu hy) rfl (List.append_nil _).symm (fun x hx=>by cases hx)
theorem Mk.set {m:aB} (M:Mk m) {i:Nat} {y:dH} (hy:Tok y):Mk (vz m i y):=⟨M.nT,M.rF,M.pQ,M.tY,M.dec,M.oO,mD M.act hy,M.lX,M.kZ,M.ma,M.mg,M.mf⟩
theorem BL {l:List dH} {n:Nat} {r:Int × Bool} (hr:dz l n=r) (h:r.2=true):Int.toNat r.1 < l.length:=by
  unfold dz at hr
  simp only [bnd] at hr
  split at hr
  · subst hr; simp only [Int.toNat_natCast]; omega
  · subst hr; cases h
theorem yl {p t:bO} {x:bQ} {m m':aB} (h:kY p x m=(t,m')):Tr 1 p m t m'∧(mJ x.ai.ls→Mk m→Mk m'):=by
  have same:(p,m)=(t,m')→Tr 1 p m t m'∧(mJ x.ai.ls→Mk m→Mk m'):=fun h=>by
    obtain⟨rfl,rfl⟩:=Prod.mk.inj h
    exact⟨(Tr.same p m).one,fun _ M=>M⟩
  unfold kY jb at h
  simp only [bnd] at h
  rcases ef:dz m.aA.ls x.bf with ⟨i,ok⟩
  rw [ef] at h
  split at h
  case isFalse=>exact same h
  rename_i hok
  have hi:=BL ef hok
  split at h
  · exact same h
  split at h
  · exact same h
  have ab:∀ {d:bO} {a:aB},gz p i m=(d,a)→(d,aB.mk (dA.mk a.aa.ak a.aa.ax a.aa.bi a.aa.aI (Ll.mk m.aa.ag.ls) (Ll.mk m.aa.aj.ls) (Ll.mk m.aa.aF.ls)) a.bH (Ll.mk a.aA.ls) a.aQ a.aO a.aL a.aN a.aK a.df a.cu a.cz a.cB a.cK)=(t,m')→Tr 1 p m t m'∧(mJ x.ai.ls→Mk m→Mk m'):=fun e h=>by
    have ha:=uu hi e
    obtain⟨rfl,c⟩:=Prod.mk.inj h
    obtain rfl:=sK c (by rw [ha.1]) (by rw [ha.1]) (by rw [ha.1]) rfl
    exact⟨ha.2.1.one,fun _=>ha.2.2.1⟩
  split at h
  · split at h
    · split at h
      · obtain⟨rfl,rfl⟩:=Prod.mk.inj h
        refine⟨Tr.one ?_,fun hr M=>M.set (i:=Int.toNat i) (nP (sj M hi) hr)⟩
        refine Tr.set p m (i:=Int.toNat i) ?_
        rfl
      · rcases e:lg p i (vz m (Int.toNat i) (dH.mk (List.getD m.aA.ls (Int.toNat i) default).bq (List.getD m.aA.ls (Int.toNat i) default).aW (List.getD m.aA.ls (Int.toNat i) default).aH (List.getD m.aA.ls (Int.toNat i) default).dw (Ll.mk (List.getD m.aA.ls (Int.toNat i) default).bS.ls) (Ll.mk (List.getD m.aA.ls (Int.toNat i) default).aC.ls) (Ll.mk (List.set (List.getD m.aA.ls (Int.toNat i) default).bF.ls (Int.toNat (ic (List.getD m.aA.ls (Int.toNat i) default).aC.ls x)) true)) (Ll.mk (List.set (List.getD m.aA.ls (Int.toNat i) default).ae.ls (Int.toNat (ic (List.getD m.aA.ls (Int.toNat i) default).aC.ls x)) (Ll.mk x.ai.ls))) (List.getD m.aA.ls (Int.toNat i) default).dZ)) with ⟨d,a⟩
        have e':=e
        unfold vz at e'
        rw [e'] at h
        have hc:=zQ (by unfold vz; simp only [List.length_set]; exact hi) e
        obtain⟨rfl,c⟩:=Prod.mk.inj h
        obtain rfl:=sK c (by rw [hc.1.own]; rfl) rfl rfl rfl
        refine⟨Nat.zero_add 1 ▸ Tr.trans ?_ hc.1,fun hr M=>hc.2 (M.set (nP (sj M hi) hr))⟩
        refine Tr.set p m (i:=Int.toNat i) ?_
        rfl
    · rcases e:gz p i m with ⟨d,a⟩
      rw [e] at h; exact ab e h
  · rcases e:gz p i m with ⟨d,a⟩
    rw [e] at h; exact ab e h
def sdX (m:aB) (D:List bL):aB:= { m with aa:=dA.mk m.aa.ak m.aa.ax m.aa.bi m.aa.aI (Ll.mk m.aa.ag.ls) (Ll.mk D) (Ll.mk m.aa.aF.ls) }
theorem Tr.sdX (p:bO) (m:aB) {D:List bL} (h:(List.map bL.bf D).Sublist (nD m)):Tr 1 p m p (sdX m D):=by
  have hl:=h.length_le
  simp only [nD,List.length_map] at hl
  refine⟨rfl,rfl,fun h=> ?_,Nat.le_succ _,fun k _ hk c=> ?_⟩
  · show List.length m.aA.ls+List.length D≤8; omega
  · have a:=c.2.sub (List.Sublist.refl _) h
    exact⟨⟨hk,a.1.mono (Nat.le_succ k)⟩, [],(List.append_nil _).symm,a.2⟩
theorem Cv {l:List bL} {i:Nat} {y:bL} (hy:y.bf=(List.getD l i default).bf):List.map bL.bf (List.set l i y)=List.map bL.bf l:=by
  rw [List.map_set]
  by_cases h:i < l.length
  · have:(List.map bL.bf l)[i]'(by rw [List.length_map]; exact h)=y.bf:=by rw [List.getElem_map,hy,List.getD_eq_getElem?_getD,List.getElem?_eq_getElem h]; rfl
    rw [← this]; exact List.set_getElem_self _
  · exact List.set_eq_of_length_le (by rw [List.length_map]; omega)
theorem wL (l:List Int) (c:bQ):∀ (f:Nat) (a b:Int) (q:List Int),List.length (gL l c f a b q).2≤List.length q
  | 0,a,b,q=>IU _
  | f+1,a,b,q=>by
    simp only [gL,bnd]
    split
    · split
      · exact wL l c f _ _ _
      · exact Nat.le_trans (wL l c f _ _ _) (by rw [List.length_set]; exact Nat.le_refl _)
    · exact Nat.le_refl _
theorem Df (l:List Int) (c:bQ):List.length (ik l c)≤List.length l:=by
  unfold ik
  simp only [bnd]
  split
  · exact Nat.le_refl _
  · rw [List.length_take]; exact Nat.le_trans (Nat.min_le_right _ _) (wL _ _ _ _ _ _)
theorem Ec {l:List bL} {n:Nat} {r:Int × Bool} (hr:bU l n=r) (h:r.2=true):Int.toNat r.1 < l.length:=by
  unfold bU at hr
  simp only [bnd] at hr
  split at hr
  · subst hr; simp only [Int.toNat_natCast]; omega
  · subst hr; cases h
theorem nS {p t:bO} {x:bQ} {m m':aB} (h:lG p x m=(t,m')):(∃ D,m'=sdX m D)∧Tr 1 p m t m'∧(Mk m→Mk m'):=by
  unfold lG at h
  simp only [bnd] at h
  rcases ef:bU m.aa.aj.ls x.bf with ⟨i,ok⟩
  rw [ef] at h
  split at h
  · rename_i hok
    have hi:=Ec ef hok
    have a:=fun M:Mk m=>M.dec _ (List.mem_of_getElem? (getD_at hi))
    generalize hy:List.getD m.aa.aj.ls (Int.toNat i) default=y at h a
    have hD:Mk m→Dk (List.set m.aa.aj.ls (Int.toNat i) (bL.mk y.bf y.aS y.ax y.aY (Ll.mk (ik y.ak.ls x)))):=fun M z hz=>by
      rcases List.mem_or_eq_of_mem_set hz with d | rfl
      · exact M.dec z d
      · have c:=a M
        exact⟨c.1,c.2.1,c.2.2.1,Nat.le_trans (Df _ _) c.2.2.2⟩
    have hmap:List.map bL.bf (List.set m.aa.aj.ls (Int.toNat i) (bL.mk y.bf y.aS y.ax y.aY (Ll.mk (ik y.ak.ls x))))=nD m:=Cv (by rw [hy])
    generalize List.set m.aa.aj.ls (Int.toNat i) (bL.mk y.bf y.aS y.ax y.aY (Ll.mk (ik y.ak.ls x)))=D at h hD hmap
    split at h
    · obtain⟨rfl,rfl⟩:=Prod.mk.inj h
      exact⟨⟨_,rfl⟩,Tr.sdX p m (hmap ▸ (qI D (Int.toNat i)).map bL.bf),fun M=>⟨M.nT,M.rF,M.pQ,M.tY,fun y hy=>hD M y ((qI _ _).subset hy),M.oO,M.act,M.lX,M.kZ,M.ma,M.mg,M.mf⟩⟩
    · obtain⟨rfl,rfl⟩:=Prod.mk.inj h
      exact⟨⟨_,rfl⟩,Tr.sdX p m (hmap ▸ List.Sublist.refl _),fun M=>⟨M.nT,M.rF,M.pQ,M.tY,hD M,M.oO,M.act,M.lX,M.kZ,M.ma,M.mg,M.mf⟩⟩
  · obtain⟨rfl,rfl⟩:=Prod.mk.inj h
    exact⟨⟨_,rfl⟩,(Tr.same p m).one,id⟩
theorem Dh (p:bO) (x:bQ) (m:aB):Tr 1 p m (mi p x m) m:=by
  unfold mi
  simp only [bnd]
  split
  · exact(Tr.decide _ _ _ _ _).one
  · split
    · exact(Tr.same p m).one
    · exact(Tr.decide _ _ _ _ _).one
theorem Lw.all {w n b:Nat} (hn:w≤n) (hb:w≤b):∀ {l:List bQ} {a:Nat},a≤w→(∀ x ∈ l,x.aM=3∧x.di=w∧x.bf=n)→Lw a b l
  | [],a,ha,_=>Nat.le_trans ha hb
  | x::l,a,ha,h=>by
    have hx:=h x (.head _)
    unfold Lw
    rw [if_pos hx.1,hx.2.1,hx.2.2]
    exact⟨ha,hn,Lw.all hn hb (Nat.le_refl _) fun y hy=>h y (.tail _ hy)⟩
theorem xR (m:aB) (i:Int) (y:dH) (x:dH):∀ (f k:Nat) (o:List bQ), ∃ q,gZ m i y x f k o=o++q∧List.length q≤f∧∀ z ∈ q,z.aM=3∧z.di=gy (vz m (Int.toNat i) (dH.mk y.bq y.aW y.aH y.dw (Ll.mk y.bS.ls) (Ll.mk y.aC.ls) (Ll.mk y.bF.ls) (Ll.mk y.ae.ls) (IntKind.i64.wrap (y.dZ+1))))∧z.bf=x.bq
  | 0,k,o=>⟨[],(List.append_nil _).symm,Nat.le_refl _,fun z hz=>by cases hz⟩
  | f+1,k,o=>by
    simp only [gZ,bnd]
    split
    · obtain⟨q,e,hl,hq⟩:=xR m i y x f (k+1) o
      exact⟨q,e,Nat.le_succ_of_le hl,hq⟩
    · obtain⟨q,e,hl,hq⟩:=xR m i y x f (k+1) (o++ [bQ.mk 3 0 (List.getD x.aC.ls k default).dU 0 0 0 0 0 x.bq (gy (vz m (Int.toNat i) (dH.mk y.bq y.aW y.aH y.dw (Ll.mk y.bS.ls) (Ll.mk y.aC.ls) (Ll.mk y.bF.ls) (Ll.mk y.ae.ls) (IntKind.i64.wrap (y.dZ+1))))) 0 x.dw 0 0 0 false (bK.mk [] []) (Ll.mk (List.getD x.aC.ls k default).aD.ls) (Ll.mk []) (Ll.mk [])])
      refine⟨_::q,e.trans (by rw [List.append_assoc]; rfl),by rw [List.length_cons]; omega,fun z hz=> ?_⟩
      rcases List.mem_cons.1 hz with rfl | hz
      · exact⟨rfl,rfl,rfl⟩
      · exact hq z hz
theorem Tr.tells {p t:bO} {m m':aB} {j n:Nat} {q:List bQ} (h:Tr j p m p m') (ho:t.bE.ls=p.bE.ls++q) (hq:∀ z ∈ q,z.aM=3∧z.di=gy m'∧z.bf=n) (hn:∀ k,Im k m→k+j≤1000000→n ∈ nA m'):Tr j p m t m':=
  ⟨h.own,h.sh,h.ad,h.la,fun k c hl hk=>by
    obtain⟨a,o,e,d⟩:=h.lw k c hl hk
    have f:lo m≤lo m':=by
      have:o= []:=by have:=congrArg List.length e; rw [List.length_append] at this; exact List.length_eq_zero_iff.1 (by omega)
      subst this; exact d
    exact⟨a,q,ho,Lw.all (a.2.le.1 n (hn k hk hl)) (Nat.le_refl _) f fun z hz=>⟨(hq z hz).1,(hq z hz).2.1.trans (Cr a),(hq z hz).2.2⟩⟩⟩
theorem qZ {p t:bO} {n:Nat} {m m':aB} (h:kF p n m=(t,m')):m'.aa=m.aa∧Tr 0 p m t m'∧(Mk m→Mk m')∧(Mk m→List.length t.bE.ls≤List.length p.bE.ls+6):=by
  unfold kF at h
  simp only [bnd] at h
  rcases ef:dz m.aA.ls n with ⟨i,ok⟩
  rw [ef] at h
  split at h
  case isFalse=>
    obtain⟨rfl,rfl⟩:=Prod.mk.inj h
    exact⟨rfl,Tr.same p m,id,fun _=>Nat.le_add_right _ _⟩
  rename_i hok
  have hi:=BL ef hok
  generalize hy:List.getD m.aA.ls (Int.toNat i) default=y at h
  have hg:List.getD (List.set m.aA.ls (Int.toNat i) (dH.mk y.bq y.aW y.aH y.dw (Ll.mk y.bS.ls) (Ll.mk y.aC.ls) (Ll.mk y.bF.ls) (Ll.mk y.ae.ls) (IntKind.i64.wrap (y.dZ+1)))) (Int.toNat i) default=dH.mk y.bq y.aW y.aH y.dw (Ll.mk y.bS.ls) (Ll.mk y.aC.ls) (Ll.mk y.bF.ls) (Ll.mk y.ae.ls) (IntKind.i64.wrap (y.dZ+1)):=by
    rw [List.getD_eq_getElem?_getD,List.getElem?_set_self hi]; rfl
  rw [hg] at h
  have hs:=Tr.set p m (i:=Int.toNat i) (y:=dH.mk y.bq y.aW y.aH y.dw (Ll.mk y.bS.ls) (Ll.mk y.aC.ls) (Ll.mk y.bF.ls) (Ll.mk y.ae.ls) (IntKind.i64.wrap (y.dZ+1))) (by rw [hy])
  have hm:=fun M:Mk m=>M.set (i:=Int.toNat i) (pK (hy ▸ sj M hi) (IntKind.i64.wrap (y.dZ+1)))
  split at h
  · rcases e:gz p i (vz m (Int.toNat i) (dH.mk y.bq y.aW y.aH y.dw (Ll.mk y.bS.ls) (Ll.mk y.aC.ls) (Ll.mk y.bF.ls) (Ll.mk y.ae.ls) (IntKind.i64.wrap (y.dZ+1)))) with ⟨d,f⟩
    have e':=e
    unfold vz at e'
    rw [e'] at h
    have ha:=uu (by unfold vz; simp only [List.length_set]; exact hi) e
    obtain⟨rfl,a⟩:=Prod.mk.inj h
    obtain rfl:=sK a (by rw [ha.1]; rfl) (by rw [ha.1]; rfl) (by rw [ha.1]; rfl) rfl
    refine⟨ha.1,hs.trans ha.2.1,fun M=>ha.2.2.1 (hm M),fun M=> ?_⟩
    rw [ha.2.2.2]
    have c:=(sj (hm M) (i:=Int.toNat i) (by unfold vz; simp only [List.length_set]; exact hi)).len
    exact Nat.add_le_add_left c (List.length p.bE.ls+1)
  · obtain⟨rfl,rfl⟩:=Prod.mk.inj h
    obtain⟨q,e,hl,hq⟩:=xR m i y (dH.mk y.bq y.aW y.aH y.dw (Ll.mk y.bS.ls) (Ll.mk y.aC.ls) (Ll.mk y.bF.ls) (Ll.mk y.ae.ls) (IntKind.i64.wrap (y.dZ+1))) (List.length y.aC.ls) 0 p.bE.ls
    refine⟨rfl,hs.tells e hq fun k _ _=>List.mem_map.2 ⟨_,List.mem_of_getElem? (List.getElem?_set_self hi),rfl⟩,hm,fun M=> ?_⟩
    show List.length (gZ _ _ _ _ _ _ _)≤_
    rw [e,List.length_append]
    have c:=(sj M hi).len
    rw [hy] at c; omega
end Go.Proofs.YtbkagebjhbphaaaGreat
