/- The layers told, part 5. Conditions: none beyond each law's own. -/
import Derived.Test.YtndamapfnpihpaaGreatJd
namespace Go.Proofs.YtndamapfnpihpaaGreat
set_option maxHeartbeats 4000000
set_option maxRecDepth 100000
set_option linter.unusedVariables false
set_option linter.unusedSimpArgs false
set_option linter.unusedSectionVars false
section
open Go.RowKit
def jv (A:Option Addr) (n c:Nat) (xs:List Value) (t:TypeId) (sz:Nat):HP:=
  FN (λ x:Option Addr × Nat × Nat × Nat × List Value=>x.2.1+n=x.2.2.1/\x.2.1+c=x.2.2.2.1/\(0 < c->A=eO x.1 x.2.1 sz x.2.2.2.1)/\xs=x.2.2.2.2.drop (x.2.1 *sz)) (λ x=> [row x.1 x.2.2.1 x.2.2.2.1 x.2.2.2.2 t sz])
section
variable {P:Program} {F:List (Nat × Value)} {w w0:World} {D:Nat->Prop} {L:List HP} {A:Option Addr} {n c sz:Nat} {xs:List Value} {t:TypeId}
theorem Own.upQ (H:Own w0 D w (row A n c xs t sz::L)):Own w0 D w (jv A n c xs t sz::L):=
  JE (A,0,n,c,xs) ⟨by simp,by simp,λ _=>(Da A sz c).symm,by simp⟩ H
theorem Own.tlQ {R:HP} (H:Own w0 D w (R::L)):Own w0 D w L:=H.to λ h hs=>by
  obtain⟨a,b,c,d,e,g,_⟩:=j4.app.1 (show j4 ([R]++L) h from hs)
  exact d.mono g
theorem Cr {h:Nat->Option Obj} (H:jv A n c xs t sz h):∃ (b:Option Addr) (k d a:Nat) (ys:List Value) (f:Nat->Option Obj),row b d a ys t sz f/\(∀ k o,f k=some o->h k=some o)/\k+n=d/\k+c=a/\(0 < c->A=eO b k sz a)/\xs=ys.drop (k *sz):=by
  obtain⟨⟨b,k,d,a,ys⟩,⟨e,g,i,j⟩,f,l,m,_⟩:=H
  exact⟨b,k,d,a,ys,f 0,l 0 _ rfl,λ k o hk=>m 0 k o hk,e,g,i,j⟩
theorem Own.rowCQ {i:Nat} (H:Own w0 D w L) (hi:L[i]? =some (jv A n c xs t sz)):n<=c/\c<=9223372036854775807:=by
  obtain⟨h,hr,a⟩:=H.get hi
  obtain⟨d,k,e,j,ys,f,⟨hl,hr⟩,hf,l,m,o,p⟩:=Cr hr
  rcases hr with ⟨_,q,b⟩ | ⟨g,cur,fz,_,_,b,a,_⟩
  . omega
  . unfold maxLen at a; omega
theorem EC (w:World) (h:Nat->Option Obj) (hr:jv A n c xs t sz h) (j:∀ k o,h k=some o->w.heap[k]? =some o):bO w sz A n xs:=by
  obtain⟨m,k,a,b,ys,f,hr,hf,p,q,l,d⟩:=Cr hr
  have hR:=bP w f hr λ k o hk=>j k o (hf k o hk)
  have hle:a<=b:=by
    obtain⟨_,hr⟩:=hr
    rcases hr with ⟨_,r,i⟩ | ⟨g,cur,fz,_,_,i,_⟩
    . omega
    . exact i
  have hlen:xs.length=n *sz:=by
    rw [d,List.length_drop,hR.1, <- Nat.sub_mul]
    congr 1; omega
  rcases Nat.eq_zero_or_pos n with e | e
  . subst e
    have:xs= []:=List.eq_nil_of_length_eq_zero (by rw [hlen,Nat.zero_mul])
    subst this
    exact bO.nil w sz A
  . have hc:=hR.cut (c:=b) (lo:=k) (hi:=a) e8 (Nat.le_refl _) hle
    rw [<- l e8,show a - k=n by omega, <- d,List.take_of_length_le (by rw [hlen]; exact Nat.le_refl _)] at hc
    exact hc
theorem Own.rdsQ {i:Nat} (H:Own w0 D w L) (hi:L[i]? =some (jv A n c xs t sz)):bO w sz A n xs:=by
  obtain⟨h,hr,a⟩:=H.get hi
  exact EC w h hr a
theorem ED (a:Addr) (x y:Nat):(a.add x).add y=a.add (x+y):=by
  cases a
  simp only [Addr.add]
  by_cases hx:x=0 <;> by_cases hy:y=0 <;> simp [hx,hy,Nat.add_assoc]
theorem KG {lo:Nat} {ys:List Value} (H:Own w0 D w (jv A n c xs t sz::L)) (h:lo<=n) (hys:xs.drop (lo *sz)=ys):Own w0 D w (jv (eO A lo sz c) (n - lo) (c - lo) ys t sz::L):=by
  have hle:=(H.rowCQ (i:=0) rfl).1
  obtain⟨⟨d,k,e,b,zs⟩,⟨j,f,l,g⟩,m⟩:=JS H
  refine JE (d,k+lo,e,b,zs) ⟨by show k+lo+(n - lo)=e; simp only at j; omega,by show k+lo+(c - lo)=b; simp only at f; omega,λ hp=> ?_, ?_⟩ m
  . have hc:0 < c:=e8
    have ea:=l hc
    simp only at ea f
    show eO A lo sz c=eO d (k+lo) sz b
    rw [ea]
    unfold eO
    rw [if_neg (show ¬ c=lo by omega),if_neg (show ¬ b=k by omega),if_neg (show ¬ b=k+lo by omega)]
    cases d with
    | none=>rfl
    | some a=>simp only [Option.map_some,ED,Nat.add_mul]
  . show ys=zs.drop ((k+lo) *sz)
    simp only at g
    rw [<- hys,g,List.drop_drop,Nat.add_mul]
theorem DN {a sp news:List Value} {o:Nat} (h:a.length=o):(put (a++sp) o news).take (o+news.length)=a++news:=by
  subst h
  unfold put
  rw [List.take_left' rfl]
  rw [List.take_append_of_le_length i3,List.take_of_length_le i3]
theorem Own.appendQ {k m e size bytes:Nat} {news:List Value} {u:Value} {tx:TypeId} (el:Elem P t e size bytes) (H:Own w0 D w (jv A k c xs e size::L)) (hs:Src P size tx u m news w) (hm:m=1) (ty:TypeId)
    (h:k+m<=maxLen) (hgs:∀ old,old < k+m->Builtin.nextslicecap (k+m) old *bytes<=281474976710656):
    ∃ A' c' w',(Builtin.append_ #[t,tx] ty #[.slice A k c,u]).run P w= .ok (.slice A' (k+m) c') w'/\Own w0 D w' (jv A' (k+m) c' (xs++news) e size::L):=by
  have hle:=H.rowCQ (i:=0) rfl
  by_cases hroom:k+m<=c
  . obtain⟨⟨a,d,b,o,zs⟩,⟨j,p,l,q⟩,g⟩:=JS H
    simp only at j p l q
    replace g:Own w0 D w (row a b o zs e size::L):=g
    have hzl:=(g.rowLe (i:=0) rfl).2.2
    obtain⟨sp,hsp,r⟩:=g.rowFull
    have hsz:0 < size:=el.pos
    obtain⟨w',hst,s⟩:=r.room (P:=P) (k:=b) hsz hs e8
    have hnl:=hs.newsLen
    have f:=(r.rds (i:=0) rfl).isSome e8
    have hA:A=some ⟨ab a,ao a+d *size,none⟩:=by rw [l e8]; exact gu f e8
    have v:=s.rowTake (k:=b+m) e8 (ys:=zs++news) (by rw [Nat.add_mul, <- hnl]; exact DN hzl)
    refine⟨A,c,w', ?_,JE (a,d,b+m,o,zs++news) ⟨by show d+(k+m)=b+m; omega,p,λ _=>l e8, ?_⟩ v⟩
    . obtain⟨i,z,ht,hi,hz,rfl,rfl,hzs,hsz⟩:=el
      have hadd:ao a+d *i.size+k *i.size=ao a+b *i.size:=by rw [<- j,Nat.add_mul,Nat.add_assoc]
      rw [f] at hst
      simp only [add0,ab,ao] at hst
      simp only [ab,ao] at hadd hA
      rw [hA]
      rcases hs.kind with ⟨e',hk⟩ | hk <;> simp [Builtin.append_,run_underlying ht,run_underlying hk,sizeOf,typeInfo,hi,hs.len,hroom,hs.cells,add0,hadd,hst]
    . show xs++news=(zs++news).drop (d *size)
      rw [List.drop_append_of_le_length (by rw [hzl, <- j]; exact Nat.mul_le_mul_right _ e8),q]
  . have hck:c=k:=e8
    subst hck
    obtain⟨A',c',w',hr,H'⟩:=H.tlQ.appendNew (P:=P) el (H.rdsQ (i:=0) rfl) hs e8 ty h hgs
    exact⟨A',c',w',hr,H'.upQ⟩
theorem Do.appendQ {nn:Nat} {ty:TypeId} {K:Value->World->Prop} {x y:Operand} {k m e size bytes:Nat} {news:List Value} {u:Value} {tx:TypeId} (el:Elem P t e size bytes) (H:Own w0 D w (jv A k c xs e size::L)) (hx:ev F x=some (.slice A k c)) (hy:ev F y=some u) (hs:Src P size tx u m news w)
    (hb:Nat.ble bytes 1048576=true) (hbytes:k+m<=9223372036854775807/\(k+m) *bytes<=211106232532992) {s:Nat} {ys:List Value} (hsum:k+m=s) (hys:xs++news=ys) (h:∀ A' c' w',Own w0 D w' (jv A' s c' ys e size::L)->K (.slice A' s c') w') (hm:m=1:=by rfl):
    Do P nn F w (.call ⟨.builtin .append, [x,y].toArray, [t,tx].toArray⟩) ty K:=λ a ha o b d next Q hn=>by
  obtain⟨A',c',w',hr,H'⟩:=H.appendQ (P:=P) el hs hm o.type (by unfold maxLen; omega) λ _ ho'=>growslice_fits_wide ho' (ww hbytes.2 hb)
  unfold execOp
  rw [b]
  simp only [resolve,invoke,builtin,Sem.run_bind,Sem.run_pure,Result.andThen_ok,List.map_toArray,List.map_cons,List.map_nil,ha.eval hx,ha.eval hy,hr]
  subst hsum hys
  exact hn _ _ (h A' c' w' H')
end
end
open List renaming length->q7
theorem F9:∀ (l:List aX) (m:List az) (o:List dh),q7 (gJ l m o).2=q7 o+q7 l
  | [],m,o=>by rw [gJ]; rfl
  | x::l,m,o=>by
    have h:∀ (m':List az) (y:dh),q7 (gJ l m' (o++ [y])).2=q7 o+q7 (x::l):=λ m' y=>by
      rw [F9 l m' (o++ [y])]; simp only [List.length_append,List.length_cons,List.length_nil]; omega
    rw [gJ]
    simp only [bK]
    split
    . exact h _ _
    . split
      . exact h _ _
      . split
        . exact h _ _
        . split
          . exact h _ _
          . exact h _ _
theorem DR {m:List az} {l:List aX} {f:List az} {b:List dh} {a:Int} (h:qB m l=(f,b,a)): ¬ (a=0)\/q7 b=q7 l:=by
  unfold qB at h
  simp only [bK] at h
  by_cases c:gy m=0
  . rw [if_pos c] at h
    by_cases d:jB l=0
    . rw [if_pos d] at h
      refine .inr ?_
      have e:b=(gJ l m []).2:=(congrArg (λ q=>q.2.1) h).symm
      rw [e,F9]; simp
    . rw [if_neg d] at h
      have e:jB l=a:=congrArg (λ q=>q.2.2) h
      exact .inl (e ▸ d)
  . rw [if_neg c] at h
    have e:gy m=a:=congrArg (λ q=>q.2.2) h
    exact .inl (e ▸ c)
theorem zr {L:List HP}{A:Option Addr}{m c sz t:Nat}{xs:List Value}{w0 w:World}{D:Nat->Prop}(i:Nat)(H:Own w0 D w L)(hi:L[i]? =some (row A m c xs t sz):=by exact rfl):m<=c/\c<=9223372036854775807:=H.rowC hi
open IntKind renaming i64->B5
open List renaming drop->s0,flatMap->q2,flatMap_append->t7,length_append->o0,length_cons->r5,length_nil->K1,map->s1,toArray->v0
open Ll renaming mk->F2
open Sv renaming mk->N1
open _root_.Go.Proofs.Tryz renaming isAgg28->Q8,isAgg32->E1,isAgg44->E3,isAgg68->C4,prog->u9,sizeOf44->Q9,sizeOf68->C2,underlying44->Q0,underlying50->R6,underlying90->Q7
open WL renaming nil->B6
open Wp renaming exit->B7,loop->y6
section
open Go.RowKit
def iE (d:bI) (l1:List Nat):List Nat->List dB->(List dB)
  | [],a=>a
  | b::c,a=>iE d l1 c (a++ [(dB.mk b true)])
def iF (d:bI):List Nat->List dB->(List dB)
  | [],a=>a
  | b::c,a=>iF d c (a++ [(dB.mk b false)])
def lm (a:bI) (l1:List Nat) (b:List Nat):bI:=
 bnd (iE a l1 b a.bE.ls) λ sLrL=>bnd (iF a l1 sLrL) λ sLrLaL=>bI.mk a.av (F2 sLrLaL)
theorem rG (w D p) (c:bI) (h j l n C E o M n1 U l1 T n2 c2 g) (V:bI) (H:Own w D w [blk p [.pointer (some ⟨o,0,none⟩), .slice h c.av.bD.ls.length j, .slice l c.av.aL.ls.length n, .bool c.av.bU, .slice C c.bE.ls.length E] 92,jv C c.bE.ls.length E (q2 dB.cells c.bE.ls) 216 2]) (R:Ro w D λ w'=>bO w' 1 M n1 (q2 (eN .u64) l1)) (aB:n1=l1.length) (bv:l1.length *8<=211106232532992) (S:Ro w D λ w'=>bO w' 1 T n2 (q2 (eN .u64) g)) (aC:n2=g.length) (bz:g.length *8<=211106232532992) (bA:c.bE.ls.length<=100000/\l1.length<=12/\g.length<=12) (hr:lm c l1 g=V):
    Calls u9 137 #[vP p 0, .slice M n1 U, .slice T n2 c2] w (dI λ v w'=> ∃ F G,v= .tuple #[]/\Own w D w' [blk p [vP o 0, .slice h c.av.bD.ls.length j, .slice l c.av.aL.ls.length n, .bool c.av.bU, .slice F V.bE.ls.length G] 92,jv F V.bE.ls.length G (q2 dB.cells V.bE.ls) 216 2]/\(V.bE.ls.length=c.bE.ls.length+l1.length+g.length)):=by
 unfold lm at hr
 subst aB aC
 have aD:=H.rowCQ (i:=1) rfl
 refine cb Tryz.func137 ?_
 refine H7 (sr (Mz rfl (Kz (vJ g.length) (Mn rfl (bo ?_)))))
 have aF:=H.pf []
 obtain⟨aG,I⟩:=vQ λ (d:Nat) u (x:Nat) a w'=>Own w D w' [blk p [vP o 0, .slice h c.av.bD.ls.length j, .slice l c.av.aL.ls.length n, .bool c.av.bU, .slice u a.length x] 92,jv u a.length x (q2 dB.cells a) 216 2]/\d<=g.length/\a.length=c.bE.ls.length+d/\a.length<=c.bE.ls.length+d/\iE c l1 g c.bE.ls=iE c l1 (s0 d g) a
 refine y6 (λ i:Nat × (Option Addr) × Nat × (List dB)=> [(12,vJ i.1),(11,vJ g.length),(10, .slice T g.length c2),(0,vP p 0),(1, .slice M l1.length U)]) aG (λ i=>g.length - i.1) (0,C,E,c.bE.ls) ⟨rfl,rfl,rfl,rfl,rfl,trivial⟩ (I.2 ⟨aF,e8,e8,e8,rfl⟩) ?_
 rintro ⟨d,u,x,a⟩ bB W
 show Wp _ _ _ [(12,vJ d),(11,vJ g.length),(10, .slice T g.length c2),(0,vP p 0),(1, .slice M l1.length U)] _ _
 obtain⟨A,aY,aZ,bf,N⟩:=I.1 W
 refine sr (Kz (.bool (decide ((d:Int) < (g.length:Int)))) (nt (H7 ?_)))
 by_cases X:(d:Int) < (g.length:Int)
 obtain⟨r,O⟩:=dG (ls:=g) (i:=d) gT f5 (A.ro S) f2
 have Y:=drop_at O
 refine jT (dT X) (sk (H7 (bo (sr (fw (.pointer (some ⟨ab T,ao T+d *1,none⟩)) (Im (iH) rfl rfl ((A.ro S).addr (i:=d) e8) e8) (fw (vU r) (Il rfl (bQ.one E1 (((A.ro S).elem gT O f5).at_ (k:=0) rfl))) (An rfl (H8 (Mz rfl (Mz rfl (Kz (vP p 0) (Kz (vP p 4) (Lz (.slice u a.length x) A 0 Tryz.isAgg90 (Mz rfl (Kz (.agg #[vU r, .bool true]) ?_)))))))))))))))
 refine jN [vU r, .bool true] 216 2 1 A ?_
 intro aH aI J
 replace J:=Own.upQ J
 replace J:Own w D aI [jv aH 1 1 (q2 dB.cells ([(dB.mk r true)])) 216 2,blk p [vP o 0, .slice h c.av.bD.ls.length j, .slice l c.av.aL.ls.length n, .bool c.av.bU, .slice u a.length x] 92,jv u a.length x (q2 dB.cells a) 216 2]:=J
 have Z:=J.pf [2]
 refine WL.do rfl (Do.appendQ (k:=a.length) (m:=1) (CU) Z rfl rfl (eY Q7 (Z.rdsQ (i:=1) rfl) (cZ dB.one ([(dB.mk r true)]))) rfl e8 (s:=q7 (a++ [(dB.mk r true)])) f3 (t7).symm ?_)
 intro aa af bC aJ
 have bg:q7 (a++ [(dB.mk r true)])=a.length+1:=by simp only [o0,r5,K1]
 refine Kz (vP p 0) (Kz (vP p 4) ?_)
 have aK:=aJ.pf [2]
 refine cu [.slice aa (q7 (a++ [(dB.mk r true)])) af] 4 aK Tryz.sizeOf90 ?_
 intro bD aL
 refine B6 (bN (Ib ?_))
 have aM:=aL.pk [0,1]
 refine H8 (fw (vJ (d+1)) (Ig (e:=B5.wrap ((d:Int)+1)) yk f1) (Mz rfl (B6 ?_)))
 have aN:=aM.pf []
 exact Iq (d+1,aa,af,(a++ [(dB.mk r true)])) ⟨rfl,rfl,rfl,rfl,rfl,trivial⟩ (I.2 ⟨aN,e8,e8,e8,et (N) (et (congrArg (λ q=>iE c l1 q a) Y) rfl)⟩) (by show g.length - (d+1) < g.length - d; omega)
 refine jF (dF X) (B7 (Ip ?_))
 have ag:iE c l1 g c.bE.ls=a:=et (N) (et (congrArg (λ q=>iE c l1 q a) (eX (ls:=g) (i:=d) e8)) rfl)
 refine Ip (Iz (Ib (sr (Mz rfl (Kz (vJ l1.length) (Mn rfl (bo ?_)))))))
 have aO:=A.pf []
 obtain⟨aP,K⟩:=vQ λ (f:Nat) y (z:Nat) b w'=>Own w D w' [blk p [vP o 0, .slice h c.av.bD.ls.length j, .slice l c.av.aL.ls.length n, .bool c.av.bU, .slice y b.length z] 92,jv y b.length z (q2 dB.cells b) 216 2]/\f<=l1.length/\b.length=a.length+f/\b.length<=a.length+f/\iF c l1 a=iF c (s0 f l1) b
 refine y6 (λ i:Nat × (Option Addr) × Nat × (List dB)=> [(30,vJ i.1),(29,vJ l1.length),(28, .slice M l1.length U),(0,vP p 0)]) aP (λ i=>l1.length - i.1) (0,u,x,a) ⟨rfl,rfl,rfl,rfl,trivial⟩ (K.2 ⟨aO,e8,e8,e8,rfl⟩) ?_
 rintro ⟨f,y,z,b⟩ bE ah
 show Wp _ _ _ [(30,vJ f),(29,vJ l1.length),(28, .slice M l1.length U),(0,vP p 0)] _ _
 obtain⟨B,bi,bn,bq,P⟩:=K.1 ah
 refine sr (Kz (.bool (decide ((f:Int) < (l1.length:Int)))) (nt (H7 ?_)))
 by_cases ai:(f:Int) < (l1.length:Int)
 obtain⟨t,Q⟩:=dG (ls:=l1) (i:=f) gT f5 (B.ro R) f2
 have aj:=drop_at Q
 refine jT (dT ai) (sk (H7 (bo (sr (fw (.pointer (some ⟨ab M,ao M+f *1,none⟩)) (Im (iH) rfl rfl ((B.ro R).addr (i:=f) e8) e8) (fw (vU t) (Il rfl (bQ.one E1 (((B.ro R).elem gT Q f5).at_ (k:=0) rfl))) (An rfl (H8 (Mz rfl (Mz rfl (Kz (vP p 0) (Kz (vP p 4) (Lz (.slice y b.length z) B 0 Tryz.isAgg90 (Mz rfl (Kz (.agg #[vU t, .bool false]) ?_)))))))))))))))
 refine jN [vU t, .bool false] 216 2 1 B ?_
 intro aQ aR L
 replace L:=Own.upQ L
 replace L:Own w D aR [jv aQ 1 1 (q2 dB.cells ([(dB.mk t false)])) 216 2,blk p [vP o 0, .slice h c.av.bD.ls.length j, .slice l c.av.aL.ls.length n, .bool c.av.bU, .slice y b.length z] 92,jv y b.length z (q2 dB.cells b) 216 2]:=L
 have ak:=L.pf [2]
 refine WL.do rfl (Do.appendQ (k:=b.length) (m:=1) (CU) ak rfl rfl (eY Q7 (ak.rdsQ (i:=1) rfl) (cZ dB.one ([(dB.mk t false)]))) rfl e8 (s:=q7 (b++ [(dB.mk t false)])) f3 (t7).symm ?_)
 intro au av bF aS
 have bu:q7 (b++ [(dB.mk t false)])=b.length+1:=by simp only [o0,r5,K1]
 refine Kz (vP p 0) (Kz (vP p 4) ?_)
 have aT:=aS.pf [2]
 refine cu [.slice au (q7 (b++ [(dB.mk t false)])) av] 4 aT Tryz.sizeOf90 ?_
 intro bG aU
 refine B6 (bN (Ib ?_))
 have aV:=aU.pk [0,1]
 refine H8 (fw (vJ (f+1)) (Ig (e:=B5.wrap ((f:Int)+1)) yk f1) (Mz rfl (B6 ?_)))
 have aW:=aV.pf []
 exact Iq (f+1,au,av,(b++ [(dB.mk t false)])) ⟨rfl,rfl,rfl,rfl,trivial⟩ (K.2 ⟨aW,e8,e8,e8,et (P) (et (congrArg (λ q=>iF c q b) aj) rfl)⟩) (by show l1.length - (f+1) < l1.length - f; omega)
 refine jF (dF ai) (B7 (Ip ?_))
 have ax:iF c l1 a=b:=et (P) (et (congrArg (λ q=>iF c q b) (eX (ls:=l1) (i:=f) e8)) rfl)
 refine Ip (Iz (IV (res0 rfl) ?_))
 have aX:=B.pf []
 obtain rfl:=zj hr zq2
 exact⟨y,z,rfl,aX,f0⟩
def fo (d:bI) (f:Nat) (e:ax) (b:aW):bI × aW:=
 bnd (iD b f) λ a=>bnd (lm d a.1 a.2.1) λ c=>(bI.mk d.av (F2 c.bE.ls),a.2.2)
theorem oF (w D U) (j:bI) (z A B C E F p1 g) (a:ax) (n o p r s t u x y c) (b:aW) (e f d) (V:bI) (r1:aW) (H:Own w D w [blk U [.pointer (some ⟨g,0,none⟩), .slice z j.av.bD.ls.length A, .slice B j.av.aL.ls.length C, .bool j.av.bU, .slice E j.bE.ls.length F] 92,jv E j.bE.ls.length F (q2 dB.cells j.bE.ls) 216 2,blk g (kB a n a.aa.ah.ls.length o p a.aa.ak.ls.length r s a.aa.af.ls.length t a.aa.bi y u a.ag.ls.length x c) 80,blk c [.slice e b.ai.ls.length f] 114,row e b.ai.ls.length f (q2 ay.cells d) 164 6,sepL (q2 Iy d)]) (h:s1 ay.abs d=b.ai.ls) (aS:j.bE.ls.length<=99000/\b.ai.ls.length<=12) (aT:jy b.ai.ls) (hr:fo j p1 a b=(V,r1)):
    Calls u9 89 #[vP U 0,vU p1] w (dI λ v w'=> ∃ G I J K k,v= .tuple #[]/\Own w D w' [blk U [vP g 0, .slice z j.av.bD.ls.length A, .slice B j.av.aL.ls.length C, .bool j.av.bU, .slice G V.bE.ls.length I] 92,jv G V.bE.ls.length I (q2 dB.cells V.bE.ls) 216 2,blk g (kB a n a.aa.ah.ls.length o p a.aa.ak.ls.length r s a.aa.af.ls.length t a.aa.bi y u a.ag.ls.length x c) 80,blk c [.slice J r1.ai.ls.length K] 114,row J r1.ai.ls.length K (q2 ay.cells k) 164 6,sepL (q2 Iy k)]/\(s1 ay.abs k=r1.ai.ls)/\(V.bE.ls.length<=j.bE.ls.length+24)):=by
 unfold fo at hr
 have M:=aY h
 have aA:=H.rowCQ (i:=1) rfl
 refine cb Tryz.func89 ?_
 refine H8 (Mz rfl (Mz rfl (Kz (vP U 0) (Kz (vP U 0) (Lz (vP g 0) H 0 Q8 (Kz (vP g 0) (Kz (vP g 19) (Lz (vP c 0) H 2 Tryz.isAgg75 (Mz rfl ?_)))))))))
 have aB:=H.pb [0,1,2]
 obtain⟨⟨l,m,W⟩,N⟩:∃ q:(List Nat) × (List Nat) × aW,iD b p1=q:=⟨_,rfl⟩
 obtain⟨aU,X,aK,Y,aL⟩:=Jb aB
 refine cl Tryz.call144 (uB _ _ c b e f d p1 l m W X h f9 (by first | assumption | exact jy.hd f6 | exact(Tk.snd f6).hd) (by first | assumption | exact Tk.snd f6) N) ?_
 rintro _ aV ⟨Z,aa,af,ag,aC,aD,aF,rfl,ah,O,P⟩
 have L:=Y _ _ ah
 have aM:=aY O
 have aN:=zr 0 L
 have aO:=zr 1 L
 have aP:=zr 3 L
 replace P:l.length<=12/\m.length<=12:=P
 refine Kz (.slice Z l.length aa) (Kz (.slice af m.length ag) ?_)
 have aG:=L.pf [5,6]
 obtain⟨T,Q⟩:∃ q,lm j l m=q:=⟨_,rfl⟩
 obtain⟨aX,ai,aQ,aj,R⟩:=IX aG
 refine cl Tryz.call137 (rG _ _ U j z A B C E F g Z l.length aa l af m.length ag m T ai (R _ 0 _ rfl bP) rfl e8 (R _ 1 _ rfl bP) rfl e8 f0 Q) ?_
 rintro _ aZ ⟨aH,aI,rfl,ak,S⟩
 have au:=aj _ _ ak
 have aR:=au.rowCQ (i:=1) rfl
 replace S:T.bE.ls.length=j.bE.ls.length+l.length+m.length:=S
 refine B6 (IV (res0 rfl) ?_)
 have aJ:=au.pk [0,1,7,4,5,6]
 obtain⟨rfl,rfl⟩:=fB (zj hr zq2)
 exact⟨aH,aI,aC,aD,aF,rfl,aJ,O,f0⟩
def jg (c:bI) (d:Nat) (a:ax):bI × ax:=
 bnd (dZ a d) λ b=>(bI.mk (dH.mk (F2 (c.av.bD.ls++ [(dL.mk 4 a.aa.bC 0 0 5 0 0 0 d 0 0 0 0 0 0 false (aj.mk [] []) (F2 []) (F2 []) (F2 []))])) (F2 c.av.aL.ls) c.av.bU) (F2 c.bE.ls),ax.mk a.aa (F2 b.ag.ls))
theorem ui (w D J) (h:bI) (O P j Q R S T g b) (a:ax) (l n p r u x z A e B C) (r0:bI) (r1:ax) (H:Own w D w [blk J [.pointer (some ⟨b,0,none⟩), .slice O h.av.bD.ls.length P, .slice Q h.av.aL.ls.length R, .bool h.av.bU, .slice S h.bE.ls.length T] 92,row O h.av.bD.ls.length P (q2 bV.cells j) 47 21,sepL (q2 IR j),blk b (kB a l a.aa.ah.ls.length n p a.aa.ak.ls.length r u a.aa.af.ls.length x a.aa.bi B z a.ag.ls.length A C) 80,row z a.ag.ls.length A (q2 aP.cells e) 99 4,sepL (q2 IA e)]) (F:s1 bV.abs j=h.av.bD.ls) (E:s1 aP.abs e=a.ag.ls) (bJ:h.av.bD.ls.length<=100000/\a.ag.ls.length<=1000) (hr:jg h g a=(r0,r1)):
    Calls u9 138 #[vP J 0,vU g] w (dI λ v w'=> ∃ K L G M N I,v= .tuple #[]/\Own w D w' [blk J [vP b 0, .slice K r0.av.bD.ls.length L, .slice Q h.av.aL.ls.length R, .bool h.av.bU, .slice S h.bE.ls.length T] 92,row K r0.av.bD.ls.length L (q2 bV.cells G) 47 21,sepL (q2 IR G),blk b (kB a l a.aa.ah.ls.length n p a.aa.ak.ls.length r u a.aa.af.ls.length x a.aa.bi B M r1.ag.ls.length N C) 80,row M r1.ag.ls.length N (q2 aP.cells I) 99 4,sepL (q2 IA I)]/\(s1 bV.abs G=r0.av.bD.ls)/\(s1 aP.abs I=r1.ag.ls)/\(r0.av.bD.ls.length=h.av.bD.ls.length+1)):=by
 unfold jg at hr
 have aJ:=aY F
 have aa:=aY E
 have aK:=zr 1 H
 have ag:=zr 4 H
 refine cb Tryz.func138 ?_
 refine sr (Mz rfl (Kz (vP J 0) (Kz (vP J 0) (Lz (vP b 0) H 0 Q8 (Mz rfl ?_)))))
 have aL:=H.pb [0,1,2]
 obtain⟨ah,U⟩:∃ q,dZ a g=q:=⟨_,rfl⟩
 obtain⟨bK,ai,bz,ak,bA⟩:=Jb aL
 refine cl Tryz.call87 (mh _ _ b a l n p r u x z A e B C g ah ai E f0 U) ?_
 rintro _ bL ⟨aM,aN,aO,rfl,au,V⟩
 have av:=ak _ _ au
 have bB:=aY V
 have bC:=zr 1 av
 refine nt (H8 (Mz rfl (Mz rfl (Kz (.agg (iy 4 0 0 0 5 0 0 0 g 0 0 0 0 0 0 false [] [] none 0 0 none 0 0 none 0 0).toArray) ?_))))
 refine WL.do rfl (IB Tryz.call81 rfl ?_ (λ _ _ k=>k))
 refine cb Tryz.func81 ?_
 refine sr ?_
 refine bW (iy 4 0 0 0 5 0 0 0 g 0 0 0 0 0 0 false [] [] none 0 0 none 0 0 none 0 0) 47 av ?_
 intro W bN X
 refine ns (Mz rfl (Kz (vP J 0) (Kz (vP J 0) (Lz (vP b 0) X 4 Q8 (Kz (vP b 0) (Kz (vP b 0) (Kz (vP b 0) (Lz (vI a.aa.bC) X 1 Tryz.isAgg3 (Kz (vP W 1) ?_)))))))))
 refine cu [vI a.aa.bC] 1 X Tryz.sizeOf3 ?_
 intro bP ay
 refine ns (Kz (vP W 18) (Lz (.slice none 0 0) ay 0 E3 ?_))
 obtain⟨bQ,az,bD,aA,bE⟩:=Ia ay
 refine cl Tryz.call36 (iK _ _ none 0 0 [] [] az (λ _ _=>bO.nil _ _ _) rfl i3 rfl) ?_
 rintro _ bR ⟨c,d,rfl,aB⟩
 have aC:=aA _ _ aB
 have bF:=zr 0 aC
 refine Kz (vP W 18) ?_
 have aQ:=aC.pf [1]
 refine cu [.slice c 0 d] 18 aQ Q9 ?_
 intro bS aS
 refine nt ?_
 refine mJ 8 [8,12] Iw aS ?_
 intro bT aT
 refine IP (v:=vP J 0) 0 rfl e9 (λ _=>Ie rfl) (qv 1 rfl rfl (qp J 0 2 rfl (qp J 1 3 rfl (qp J 1 4 rfl (ql 5 rfl 5 Tryz.isAgg50 rfl rfl rfl (qt (v:= .agg (iy 4 a.aa.bC 0 0 5 0 0 0 g 0 0 0 0 0 0 false [] [] c 0 d none 0 0 none 0 0).toArray) 6 rfl (λ _ ⟨_,H9⟩=>Il rfl (Io (cs:=(iy 4 a.aa.bC 0 0 5 0 0 0 g 0 0 0 0 0 0 false [] [] c 0 d none 0 0 none 0 0)) Tryz.isAgg47 Tryz.sizeOf47 ((H9.cls (i:=0) rfl).lit (k:=0) (m:=21) rfl))) ?_))))))
 refine qd 7 rfl (IZ (cs:=(iy 4 a.aa.bC 0 0 5 0 0 0 g 0 0 0 0 0 0 false [] [] c 0 d none 0 0 none 0 0)) (t:=47) (sz:=21) (m:=1) aT rfl rfl (λ _=>by kernel_rfl) rfl f5 ?_)
 intro aU Y Z
 replace Z:=IL (y:=row aU 1 1 (q2 bV.cells ([(bV.mk 4 a.aa.bC 0 0 5 0 0 0 g 0 0 0 0 0 0 false (aj.mk [] []) (N1 c d []) (N1 none 0 []) (N1 none 0 []))])) 47 21) rfl Z
 have aD:=Z.pb [0]
 refine⟨.inr ⟨_,aD⟩, ?_⟩
 have aV:Own w D Y (sepL (q2 IJ [])::_):=aD.sepNil
 have aW:Own w D Y (row none 0 0 (q2 aR.cells []) 70 3::_):=aV.free (bZ 70 3)
 have aZ:Own w D Y (row none 0 0 (q2 bM.cells []) 83 2::_):=aW.free (bZ 83 2)
 have aF:=aZ.pf [9,10,4,1]
 refine qd 8 rfl (IC (k:=h.av.bD.ls.length) (m:=1) (sK) aF rfl rfl (eY R6 (aF.rds (i:=11) rfl) (cZ bV.one ([(bV.mk 4 a.aa.bC 0 0 5 0 0 0 g 0 0 0 0 0 0 false (aj.mk [] []) (N1 c d []) (N1 none 0 []) (N1 none 0 []))]))) rfl e8 (s:=q7 (h.av.bD.ls++ [(dL.mk 4 a.aa.bC 0 0 5 0 0 0 g 0 0 0 0 0 0 false (aj.mk [] []) (F2 []) (F2 []) (F2 []))])) f3 (t7).symm ?_)
 intro aG aH bf bg
 have bi:=bg.pf [1,2,3,4,5]
 have bn:Own w D bf (sepL (q2 IR (j++ [(bV.mk 4 a.aa.bC 0 0 5 0 0 0 g 0 0 0 0 0 0 false (aj.mk [] []) (N1 c d []) (N1 none 0 []) (N1 none 0 []))]))::_):=bi.sepAdd (L2:= [row c 0 d (q2 aX.cells []) 68 6,row none 0 0 (q2 aR.cells []) 70 3,row none 0 0 (q2 bM.cells []) 83 2,sepL (q2 IJ [])]) (t7 (f:=IR) (xs:=j) (ys:= [(bV.mk 4 a.aa.bC 0 0 5 0 0 0 g 0 0 0 0 0 0 false (aj.mk [] []) (N1 c d []) (N1 none 0 []) (N1 none 0 []))])).symm
 have bG:q7 (h.av.bD.ls++ [(dL.mk 4 a.aa.bC 0 0 5 0 0 0 g 0 0 0 0 0 0 false (aj.mk [] []) (F2 []) (F2 []) (F2 []))])=h.av.bD.ls.length+1:=by simp only [o0,r5,K1]
 have bH:=aY (jI (es:= [(bV.mk 4 a.aa.bC 0 0 5 0 0 0 g 0 0 0 0 0 0 false (aj.mk [] []) (N1 c d []) (N1 none 0 []) (N1 none 0 []))]) (ms:= [(dL.mk 4 a.aa.bC 0 0 5 0 0 0 g 0 0 0 0 0 0 false (aj.mk [] []) (F2 []) (F2 []) (F2 []))]) F rfl)
 refine⟨.inl e9, ?_⟩
 refine IP (v:=vP J 0) 9 rfl e9 (λ _=>yk) (IP (v:=vP J 1) 10 rfl e9 (λ _=>yk) (IP (v:=vP J 1) 11 rfl e9 (λ _=>yk) ?_))
 have bq:=bn.pf [6]
 refine qe 12 rfl (Do.store (vs:= [.slice aG (q7 (h.av.bD.ls++ [(dL.mk 4 a.aa.bC 0 0 5 0 0 0 g 0 0 0 0 0 0 false (aj.mk [] []) (F2 []) (F2 []) (F2 []))])) aH]) (o:=1) bq rfl rfl Tryz.sizeOf50 rfl rfl rfl rfl ?_)
 intro bX bu
 refine⟨.inl e9, ?_⟩
 refine qn (IV (res0 rfl) (B6 (IV (res0 rfl) ?_)))
 have bv:=bu.px [0,2] [3,7] []
 obtain⟨rfl,rfl⟩:=fB (zj hr zq1)
 exact⟨aG,aH,(j++ [(bV.mk 4 a.aa.bC 0 0 5 0 0 0 g 0 0 0 0 0 0 false (aj.mk [] []) (N1 c d []) (N1 none 0 []) (N1 none 0 []))]),aM,aN,aO,rfl,bv,(jI (es:= [(bV.mk 4 a.aa.bC 0 0 5 0 0 0 g 0 0 0 0 0 0 false (aj.mk [] []) (N1 c d []) (N1 none 0 []) (N1 none 0 []))]) (ms:= [(dL.mk 4 a.aa.bC 0 0 5 0 0 0 g 0 0 0 0 0 0 false (aj.mk [] []) (F2 []) (F2 []) (F2 []))]) F rfl),V,f0⟩
def jl:List az->List aX->(List aX)
  | [],a=>a
  | b::c,a=>jl c (a++ [(aX.mk 2 b.aZ b.aO [] [] 0)])
def fM (g:bI) (l1:List aX) (b:ax) (a:StoreT):List aX->List aX->(List aX)
  | [],c=>c
  | e::f,c=>bnd (mF b e a) λ d=>bnd (jl d.1 c) λ sLrLsbL=>fM g l1 b a f sLrLsbL
def mG (d:bI) (l1:List aX) (c:ax) (b:StoreT):(List dh) × Int:=
 bnd (fM d l1 c b l1 []) λ sLrL=>bnd (qB [] ((sLrL++d.av.aL.ls)++l1)) λ a=>if a.2.2=0 then((s0 ((q7 ((sLrL++d.av.aL.ls)++l1)) - l1.length) a.2.1),0) else(([]:List dh),a.2.2)
theorem vD (w D R) (d:bI) (N O I J P Q Z n1 c1 l1 p) (a:ax) (u x z A B C E F G g) (b:StoreT) (h f r0 r1) (H:Own w D w [blk R [.pointer (some ⟨p,0,none⟩), .slice N d.av.bD.ls.length O, .slice I d.av.aL.ls.length J, .bool d.av.bU, .slice P d.bE.ls.length Q] 92,blk p (kB a u a.aa.ah.ls.length x z a.aa.ak.ls.length A B a.aa.af.ls.length C a.aa.bi g E a.ag.ls.length F G) 80,blk g [.slice h b.xM.ls.length f] 27]) (aT:Ro w D λ w'=>bO w' 6 I d.av.aL.ls.length (q2 aX.cells d.av.aL.ls)) (dC:d.av.aL.ls.length<=J/\d.av.aL.ls.length<=9223372036854775807) (aB:Ro w D λ w'=>bO w' 6 Z n1 (q2 aX.cells l1)) (dD:n1=l1.length) (fO:l1.length *80<=211106232532992) (S:Ro w D λ w'=>bO w' 2 h b.xM.ls.length (q2 az.cells b.xM.ls)) (aU:b.xM.ls.length<=f/\b.xM.ls.length<=9223372036854775807) (fP:l1.length<=24/\d.av.aL.ls.length<=1000/\b.xM.ls.length<=4000) (hr:mG d l1 a b=(r0,r1)):
    Calls u9 130 #[vP R 0, .slice Z n1 c1] w (dI λ v w'=> ∃ B0 b0 e0,v= .tuple #[.slice B0 r0.length b0,vI r1]/\Own w D w' [row B0 r0.length b0 (q2 aR.cells e0) 70 3,sepL (q2 IJ e0),blk R [vP p 0, .slice N d.av.bD.ls.length O, .slice I d.av.aL.ls.length J, .bool d.av.bU, .slice P d.bE.ls.length Q] 92,blk p (kB a u a.aa.ah.ls.length x z a.aa.ak.ls.length A B a.aa.af.ls.length C a.aa.bi g E a.ag.ls.length F G) 80,blk g [.slice h b.xM.ls.length f] 27]/\(s1 aR.abs e0=r0)/\(r0.length<=24)):=by
 unfold mG at hr
 subst dD
 refine cb Tryz.func130 ?_
 refine sr (Az rfl (Ar rfl (An rfl (H7 (sr (Mz rfl (Kz (vJ l1.length) (Mn rfl (bo ?_)))))))))
 have dH:Own w D w [row none 0 0 (q2 aX.cells []) 68 6,blk R [vP p 0, .slice N d.av.bD.ls.length O, .slice I d.av.aL.ls.length J, .bool d.av.bU, .slice P d.bE.ls.length Q] 92,blk p (kB a u a.aa.ah.ls.length x z a.aa.ak.ls.length A B a.aa.af.ls.length C a.aa.bi g E a.ag.ls.length F G) 80,blk g [.slice h b.xM.ls.length f] 27]:=H.free (bZ 68 6)
 have dJ:=dH.pb [0]
 obtain⟨dK,aa⟩:=vQ λ aC (aD:Nat) c (l:Nat) w'=>Own w D w' [blk R [vP p 0, .slice N d.av.bD.ls.length O, .slice I d.av.aL.ls.length J, .bool d.av.bU, .slice P d.bE.ls.length Q] 92,blk p (kB a u a.aa.ah.ls.length x z a.aa.ak.ls.length A B a.aa.af.ls.length C a.aa.bi g E a.ag.ls.length F G) 80,blk g [.slice h b.xM.ls.length f] 27,row aC c.length aD (q2 aX.cells c) 68 6]/\l<=l1.length/\c.length<=4000 *l/\fM d l1 a b l1 []=fM d l1 a b (s0 l l1) c
 refine y6 (λ i:(Option Addr) × Nat × (List aX) × Nat=> [(4, .slice none 0 0),(5,vI 0),(6, .slice i.1 i.2.2.1.length i.2.1),(18,vJ i.2.2.2),(17,vJ l1.length),(16, .slice Z l1.length c1),(0,vP R 0),(1, .slice Z l1.length c1)]) dK (λ i=>l1.length - i.2.2.2) (none,0, [],0) ⟨rfl,rfl,rfl,rfl,rfl,rfl,rfl,rfl,trivial⟩ (aa.2 ⟨dJ,(show 0<=l1.length/\0<=4000 *0/\fM d l1 a b l1 []=fM d l1 a b (s0 0 l1) [] from ⟨e8,e8,rfl⟩)⟩) ?_
 rintro ⟨aC,aD,c,l⟩ fQ bA
 show Wp _ _ _ [(4, .slice none 0 0),(5,vI 0),(6, .slice aC c.length aD),(18,vJ l),(17,vJ l1.length),(16, .slice Z l1.length c1),(0,vP R 0),(1, .slice Z l1.length c1)] _ _
 obtain⟨W,eU,eZ,aI⟩:=aa.1 bA
 refine sr (Kz (.bool (decide ((l:Int) < (l1.length:Int)))) (nt (H7 ?_)))
 by_cases bB:(l:Int) < (l1.length:Int)
 obtain⟨T,aJ⟩:=dG (ls:=l1) (i:=l) aX.len f5 (W.ro aB) f2
 have bC:=drop_at aJ
 refine jT (dT bB) (sk (H7 (bo (sr (fw (.pointer (some ⟨ab Z,ao Z+l *6,none⟩)) (Im (nN) rfl rfl ((W.ro aB).addr (i:=l) e8) e8) (fw (.agg (aX.cells T).toArray) (Il rfl (Io (cs:=(aX.cells T)) C4 C2 ((W.ro aB).elem aX.len aJ f5))) ?_))))))
 refine bW [vI 0, .string ⟨v0 []⟩, .string ⟨v0 []⟩, .string ⟨v0 []⟩, .string ⟨v0 []⟩,vI 0] 68 W ?_
 intro fT fU dL
 refine cu (aX.cells T) 0 dL C2 ?_
 intro fV dM
 refine nt (H7 ?_)
 refine EP [] (Ik (bH.block (Ik (Ik (bH.block (Ik Iw)))))) dM ?_
 intro fZ dN
 refine qv 0 rfl rfl (qp R 0 1 rfl (qp R 0 2 rfl (ql 3 rfl 1 Q8 rfl rfl rfl (qt (v:= .agg (aX.cells T).toArray) 4 rfl (λ _ ⟨_,H9⟩=>Il rfl (Io (cs:=(aX.cells T)) C4 C2 ((H9.cls (i:=0) rfl).lit (k:=0) (m:=6) rfl))) ?_))))
 have dO:=dN.pf [2,3]
 obtain⟨⟨j,X⟩,aK⟩:∃ q:(List az) × Int,mF a T b=q:=⟨_,rfl⟩
 obtain⟨gp,bD,bE,bF,fe⟩:=IX dO
 refine qd 5 rfl (IB Tryz.call176 rfl (vC _ _ p a u x z A B C E F G T g b h f j X bD (bE _ S) e8 f0 aK) ?_)
 rintro _ gq ⟨Y,aF,rfl,bG,aL⟩
 have bJ:=bF _ _ bG
 have fo:=zr 0 bJ
 replace aL:X=0/\j.length<=4000:=aL
 have bK:=bJ.px [3,4] [] [0]
 refine⟨.inr ⟨_,bK⟩, ?_⟩
 refine qv 6 rfl rfl (qk (.slice Y j.length aF) 7 rfl (qk (vI X) 8 rfl (qa 9 rfl rfl (qa 10 rfl rfl (qn (Ib (H7 (H7 ?_))))))))
 have dP:=bK.px [] [0] []
 refine H8 (Mz rfl (fw (.bool (decide (¬ (X=0)))) (Iu (e:= !(decide (X=0))) yk decide_not.symm) (nt ?_)))
 have bL:(decide (¬ (X=0)))=false:=(dF e8)
 refine jF bL (sk (sr (Mz rfl (Kz (vJ j.length) (Mn rfl (bo ?_))))))
 have dQ:=dP.pb [3]
 obtain⟨dR,af⟩:=vQ λ aG (aH:Nat) r (o:Nat) w'=>Own w D w' [blk R [vP p 0, .slice N d.av.bD.ls.length O, .slice I d.av.aL.ls.length J, .bool d.av.bU, .slice P d.bE.ls.length Q] 92,blk p (kB a u a.aa.ah.ls.length x z a.aa.ak.ls.length A B a.aa.af.ls.length C a.aa.bi g E a.ag.ls.length F G) 80,blk g [.slice h b.xM.ls.length f] 27,row Y j.length aF (q2 az.cells j) 101 2,row aG r.length aH (q2 aX.cells r) 68 6]/\o<=j.length/\r.length=c.length+o/\r.length<=c.length+o/\r.length<=4000 *l+o/\jl j c=jl (s0 o j) r
 refine y6 (λ i:(Option Addr) × Nat × (List aX) × Nat=> [(6, .slice i.1 i.2.2.1.length i.2.1),(36,vJ i.2.2.2),(35,vJ j.length),(34, .slice Y j.length aF),(4, .slice none 0 0),(5,vI 0),(18,vJ l),(17,vJ l1.length),(16, .slice Z l1.length c1),(0,vP R 0),(1, .slice Z l1.length c1)]) dR (λ i=>j.length - i.2.2.2) (aC,aD,c,0) ⟨rfl,rfl,rfl,rfl,rfl,rfl,rfl,rfl,rfl,rfl,rfl,trivial⟩ (af.2 ⟨dQ,e8,e8,e8,e8,rfl⟩) ?_
 rintro ⟨aG,aH,r,o⟩ gu bM
 show Wp _ _ _ [(6, .slice aG r.length aH),(36,vJ o),(35,vJ j.length),(34, .slice Y j.length aF),(4, .slice none 0 0),(5,vI 0),(18,vJ l),(17,vJ l1.length),(16, .slice Z l1.length c1),(0,vP R 0),(1, .slice Z l1.length c1)] _ _
 obtain⟨ag,fq,fu,fA,fC,aM⟩:=af.1 bM
 refine sr (Kz (.bool (decide ((o:Int) < (j.length:Int)))) (nt (H7 ?_)))
 by_cases bQ:(o:Int) < (j.length:Int)
 obtain⟨n,aN⟩:=dG (ls:=j) (i:=o) az.len f5 (ag.rds (i:=3) rfl) f2
 have bR:=drop_at aN
 refine jT (dT bQ) (sk (H7 (bo (sr (fw (.pointer (some ⟨ab Y,ao Y+o *2,none⟩)) (Im (iP) rfl rfl ((ag.rds (i:=3) rfl).addr (i:=o) e8) e8) (fw (.agg (az.cells n).toArray) (Il rfl (Io (cs:=(az.cells n)) Tryz.isAgg101 Tryz.sizeOf101 ((ag.rds (i:=3) rfl).elem az.len aN f5))) ?_))))))
 refine bW [.string ⟨v0 []⟩, .string ⟨v0 []⟩] 101 ag ?_
 intro bS gy dS
 refine cu (az.cells n) 0 dS Tryz.sizeOf101 ?_
 intro gz aV
 refine nt (H8 (Mz rfl (Kz (vP bS 0) (Lz (.string ⟨v0 n.aZ⟩) aV 0 Tryz.isAgg9 (Kz (vP bS 1) (Lz (.string ⟨v0 n.aO⟩) aV 0 Tryz.isAgg9 (Kz (.agg #[vI 2, .string ⟨v0 n.aZ⟩, .string ⟨v0 n.aO⟩, .string ⟨v0 []⟩, .string ⟨v0 []⟩,vI 0]) ?_)))))))
 refine jN [vI 2, .string ⟨v0 n.aZ⟩, .string ⟨v0 n.aO⟩, .string ⟨v0 []⟩, .string ⟨v0 []⟩,vI 0] 68 6 1 aV ?_
 intro dU gB aW
 replace aW:=IL (y:=row dU 1 1 (q2 aX.cells ([(aX.mk 2 n.aZ n.aO [] [] 0)])) 68 6) rfl aW
 have bT:=aW.pf [6]
 refine WL.do rfl (IC (k:=r.length) (m:=1) (nN) bT rfl rfl (eY Q0 (bT.rds (i:=1) rfl) (cZ aX.one ([(aX.mk 2 n.aZ n.aO [] [] 0)]))) rfl e8 (s:=q7 (r++ [(aX.mk 2 n.aZ n.aO [] [] 0)])) f3 (t7).symm ?_)
 intro dV dW gD dX
 have fD:q7 (r++ [(aX.mk 2 n.aZ n.aO [] [] 0)])=r.length+1:=by simp only [o0,r5,K1]
 refine Az rfl (B6 (bN (Ib ?_)))
 have bU:=dX.px [] [1,2] []
 refine H8 (fw (vJ (o+1)) (Ig (e:=B5.wrap ((o:Int)+1)) yk f1) (Mz rfl (B6 ?_)))
 have bV:=bU.pb [0]
 exact Iq (dV,dW,(r++ [(aX.mk 2 n.aZ n.aO [] [] 0)]),o+1) ⟨rfl,rfl,rfl,rfl,rfl,rfl,rfl,rfl,rfl,rfl,rfl,trivial⟩ (af.2 ⟨bV,e8,e8,e8,e8,et (aM) (et (congrArg (λ q=>jl q r) bR) rfl)⟩) (by show j.length - (o+1) < j.length - o; omega)
 refine jF (dF bQ) (B7 (Ip ?_))
 have aZ:jl j c=r:=et (aM) (et (congrArg (λ q=>jl q r) (eX (ls:=j) (i:=o) e8)) rfl)
 refine Ip (Iz (bN (Ib ?_)))
 have bX:=ag.px [] [3] []
 refine H8 (fw (vJ (l+1)) (Ig (e:=B5.wrap ((l:Int)+1)) yk f1) (Mz rfl (B6 ?_)))
 have bY:=bX.pf []
 exact Iq (aG,aH,r,l+1) ⟨rfl,rfl,rfl,rfl,rfl,rfl,rfl,rfl,trivial⟩ (aa.2 ⟨bY,e8,e8,et (aI) (et (congrArg (λ q=>fM d l1 a b q c) bC) (et (ae aK) (ae aZ)))⟩) (by show l1.length - (l+1) < l1.length - l; omega)
 refine jF (dF bB) (B7 (Ip ?_))
 have ah:fM d l1 a b l1 []=c:=et (aI) (et (congrArg (λ q=>fM d l1 a b q c) (eX (ls:=l1) (i:=l) e8)) rfl)
 refine Ip (Iz (Ib (sr (Mz rfl (Mz rfl (Kz (vP R 0) (Kz (vP R 1) (Kz (vP R 2) (Lz (.slice I d.av.aL.ls.length J) W 0 E3 ?_)))))))))
 have aO:=W.pf [3]
 refine WL.do rfl (IC (k:=c.length) (m:=d.av.aL.ls.length) (nN) aO rfl rfl (eY Q0 (aO.ro aT) (cZ aX.one d.av.aL.ls)) rfl e8 (s:=q7 (c++d.av.aL.ls)) f3 (t7).symm ?_)
 intro fE fF fG aP
 have dY:q7 (c++d.av.aL.ls)=c.length+d.av.aL.ls.length:=by simp only [o0,r5,K1]
 refine Mz rfl ?_
 refine WL.do rfl (IC (k:=q7 (c++d.av.aL.ls)) (m:=l1.length) (nN) aP rfl rfl (eY Q0 (aP.ro aB) (cZ aX.one l1)) rfl e8 (s:=q7 ((c++d.av.aL.ls)++l1)) f3 (t7).symm ?_)
 intro cz cB fH cK
 have dZ:q7 ((c++d.av.aL.ls)++l1)=(q7 (c++d.av.aL.ls))+l1.length:=by simp only [o0,r5,K1]
 refine Ar rfl (Mz rfl ?_)
 obtain⟨⟨ai,t,K⟩,L⟩:∃ q:(List az) × (List dh) × Int,qB [] ((c++d.av.aL.ls)++l1)=q:=⟨_,rfl⟩
 obtain⟨fI,bf,d9,bg,bi⟩:=Ia cK
 refine cl Tryz.call177 (BG _ _ none 0 0 [] cz (q7 ((c++d.av.aL.ls)++l1)) cB ((c++d.av.aL.ls)++l1) ai t K bf (λ _ _=>bO.nil _ _ _) rfl i3 (bi _ 0 _ rfl bP) rfl i6 i4 L) ?_
 rintro _ aQ ⟨cO,df,aj,U,ak,rfl,bn,M,au,av⟩
 have ay:=bg _ _ bn
 have ed:=aY M
 have ek:=zr 0 ay
 have eu:=zr 1 ay
 replace au:ai.length<=0+q7 ((c++d.av.aL.ls)++l1):=au
 replace av:t.length<=q7 ((c++d.av.aL.ls)++l1):=av
 have eB: ¬ (K=0)\/t.length=q7 ((c++d.av.aL.ls)++l1):=DR L
 refine Mz rfl (Kz (.slice cO ai.length df) (Kz (.slice aj t.length U) (Kz (vI K) (Az rfl (Az rfl (An rfl (H7 (H7 ?_))))))))
 have aS:=ay.px [] [0] []
 refine H8 (Mz rfl (fw (.bool (decide (¬ (K=0)))) (Iu (e:= !(decide (K=0))) yk decide_not.symm) (nt ?_)))
 by_cases V:K=0
 refine jF (dF (Lp V)) (sk (sr (Mz rfl (Mz rfl (Kz (vI ((q7 ((c++d.av.aL.ls)++l1):Nat):Int)) (Mz rfl (Kz (vJ l1.length) (fw (vI (((q7 ((c++d.av.aL.ls)++l1)) - l1.length:Nat):Int)) (Ig (e:=B5.wrap (((q7 ((c++d.av.aL.ls)++l1):Nat):Int) - (l1.length:Int))) yk f1) (fw (.slice (eO aj ((q7 ((c++d.av.aL.ls)++l1)) - l1.length) 3 U) (t.length - ((q7 ((c++d.av.aL.ls)++l1)) - l1.length)) (U - ((q7 ((c++d.av.aL.ls)++l1)) - l1.length))) (II (uw) rfl rfl e8) ?_)))))))))
 obtain⟨fJ,bq,eD,bu,eF⟩:=IX aS
 refine cl Tryz.call178 (CS _ _ aj t.length U ak t ((q7 ((c++d.av.aL.ls)++l1)) - l1.length) bq rfl M e8 e8 e8) ?_
 rintro _ fK ⟨di,dm,rfl,bv⟩
 have dn:=bu _ _ bv
 have eG:q7 (s0 ((q7 ((c++d.av.aL.ls)++l1)) - l1.length) t)=t.length - ((q7 ((c++d.av.aL.ls)++l1)) - l1.length):=by rw [List.length_drop]
 have eH:q7 (s0 ((q7 ((c++d.av.aL.ls)++l1)) - l1.length) ak)=q7 (s0 ((q7 ((c++d.av.aL.ls)++l1)) - l1.length) t):=by exact aY (by rw [List.map_drop,M])
 refine Az rfl (An rfl (rt (Ir (kD rfl rfl rfl) ?_)))
 have dw:=dn.px [] [2] []
 obtain⟨rfl,rfl⟩:=fB (zj hr zq3)
 exact⟨di,dm,(s0 ((q7 ((c++d.av.aL.ls)++l1)) - l1.length) ak),rfl,dw,(by rw [List.map_drop,M]),f0⟩
 refine jT (dT V) (sr (Mz rfl (Az rfl (An rfl (rt (tR (Ir (kD rfl rfl rfl) ?_)))))))
 have dx:Own w D aQ (sepL (q2 IJ [])::_):=aS.sepNil
 have dz:Own w D aQ (row none 0 0 (q2 aR.cells []) 70 3::_):=dx.free (bZ 70 3)
 have dA:=dz.pk [0,1,5,6,7]
 obtain⟨rfl,rfl⟩:=fB (zj hr zq3)
 exact⟨none,0, [],rfl,dA,rfl,f0⟩
def ib (d:bI) (e:dA) (c:ax) (b:StoreT):Int × bI:=
 bnd (mG d e.aK.ls c b) λ a=>if a.2=0 then(0,bI.mk (dH.mk (F2 (d.av.bD.ls++ [(dL.mk 4 c.aa.bC 0 0 3 0 0 0 e.aU 0 0 0 0 0 0 false (aj.mk [] []) (F2 []) (F2 a.1) (F2 []))])) (F2 d.av.aL.ls) d.av.bU) (F2 d.bE.ls)) else(a.2,d)
theorem rA (w D W) (h:bI) (T U z V N Y Z) (d:dA) (O au P n) (a:ax) (B C E F G I J K L p) (b:StoreT) (g c r0) (r1:bI) (H:Own w D w [blk W [.pointer (some ⟨n,0,none⟩), .slice T h.av.bD.ls.length U, .slice V h.av.aL.ls.length N, .bool h.av.bU, .slice Y h.bE.ls.length Z] 92,row T h.av.bD.ls.length U (q2 bV.cells z) 47 21,sepL (q2 IR z),blk n (kB a B a.aa.ah.ls.length C E a.aa.ak.ls.length F G a.aa.af.ls.length I a.aa.bi p J a.ag.ls.length K L) 80,blk p [.slice g b.xM.ls.length c] 27]) (M:s1 bV.abs z=h.av.bD.ls) (ay:Ro w D λ w'=>bO w' 6 V h.av.aL.ls.length (q2 aX.cells h.av.aL.ls)) (bi:h.av.aL.ls.length<=N/\h.av.aL.ls.length<=9223372036854775807) (aA:au=d.aK.ls.length) (aB:Ro w D λ w'=>bO w' 6 O d.aK.ls.length (q2 aX.cells d.aK.ls)) (bn:d.aK.ls.length<=P/\d.aK.ls.length<=9223372036854775807) (R:Ro w D λ w'=>bO w' 2 g b.xM.ls.length (q2 az.cells b.xM.ls)) (aC:b.xM.ls.length<=c/\b.xM.ls.length<=9223372036854775807) (cO:h.av.bD.ls.length<=100000/\d.aK.ls.length<=24/\h.av.aL.ls.length<=1000/\b.xM.ls.length<=4000) (hr:ib h d a b=(r0,r1)):
    Calls u9 78 #[vP W 0, .agg #[vU d.aU, .slice O au P]] w (dI λ v w'=> ∃ aa af S,v=vI r0/\Own w D w' [blk W [vP n 0, .slice aa r1.av.bD.ls.length af, .slice V h.av.aL.ls.length N, .bool h.av.bU, .slice Y h.bE.ls.length Z] 92,row aa r1.av.bD.ls.length af (q2 bV.cells S) 47 21,sepL (q2 IR S),blk n (kB a B a.aa.ah.ls.length C E a.aa.ak.ls.length F G a.aa.af.ls.length I a.aa.bi p J a.ag.ls.length K L) 80,blk p [.slice g b.xM.ls.length c] 27]/\(s1 bV.abs S=r1.av.bD.ls)/\(r1.av.bD.ls.length<=h.av.bD.ls.length+1)):=by
 unfold ib at hr
 subst aA
 have bg:=aY M
 have bq:=zr 1 H
 refine cb Tryz.func78 ?_
 refine sr ?_
 refine bW [vU d.aU, .slice O d.aK.ls.length P] 60 H ?_
 intro aI df aJ
 refine Ar rfl (Mz rfl (Kz (vP aI 1) (Lz (.slice O d.aK.ls.length P) aJ 0 E3 ?_)))
 have bu:=aJ.pb [0,2,3]
 obtain⟨⟨r,X⟩,ag⟩:∃ q:(List dh) × Int,mG h d.aK.ls a b=q:=⟨_,rfl⟩
 obtain⟨di,aK,ah,aL,bS⟩:=Jb bu
 refine cl Tryz.call130 (vD _ _ W h T U V N Y Z O d.aK.ls.length P d.aK.ls n a B C E F G I J K L p b g c r X aK (ah _ ay) e8 (ah _ aB) rfl e8 (ah _ R) e8 f0 ag) ?_
 rintro _ dm ⟨j,l,A,rfl,aM,Q,av⟩
 have ai:=aL _ _ aM
 have bT:=aY Q
 have bU:=zr 0 ai
 replace av:r.length<=24:=av
 refine Mz rfl (Kz (.slice j r.length l) (Kz (vI X) (Az rfl (An rfl (H7 (sr (Mz rfl (fw (.bool (decide (¬ (X=0)))) (Iu (e:= !(decide (X=0))) yk decide_not.symm) (nt ?_)))))))))
 by_cases ak:X=0
 refine jF (dF (Lp ak)) (sk (sr (Mz rfl (Kz (vP aI 0) (Lz (vU d.aU) ai 5 E1 (Mz rfl (Kz (.agg (iy 4 0 0 0 3 0 0 0 d.aU 0 0 0 0 0 0 false [] [] none 0 0 j r.length l none 0 0).toArray) ?_)))))))
 refine WL.do rfl (IB Tryz.call81 rfl ?_ (λ _ _ k=>k))
 refine cb Tryz.func81 ?_
 refine sr ?_
 refine bW (iy 4 0 0 0 3 0 0 0 d.aU 0 0 0 0 0 0 false [] [] none 0 0 j r.length l none 0 0) 47 ai ?_
 intro aD dn aF
 refine ns (Mz rfl (Kz (vP W 0) (Kz (vP W 0) (Lz (vP n 0) aF 3 Q8 (Kz (vP n 0) (Kz (vP n 0) (Kz (vP n 0) (Lz (vI a.aa.bC) aF 4 Tryz.isAgg3 (Kz (vP aD 1) ?_)))))))))
 refine cu [vI a.aa.bC] 1 aF Tryz.sizeOf3 ?_
 intro dw aN
 refine ns (Kz (vP aD 18) (Lz (.slice none 0 0) aN 0 E3 ?_))
 obtain⟨dx,aO,bX,aP,bY⟩:=Ia aN
 refine cl Tryz.call36 (iK _ _ none 0 0 [] [] aO (λ _ _=>bO.nil _ _ _) rfl i3 rfl) ?_
 rintro _ dz ⟨u,x,rfl,aQ⟩
 have aS:=aP _ _ aQ
 have cz:=zr 0 aS
 refine Kz (vP aD 18) ?_
 have bv:=aS.pf [1]
 refine cu [.slice u 0 x] 18 bv Q9 ?_
 intro dB bz
 refine nt ?_
 refine mJ 10 [8,12] Iw bz ?_
 intro dC bA
 refine IP (v:=vP W 0) 0 rfl e9 (λ _=>Ie rfl) (qv 1 rfl rfl (qp W 0 2 rfl (qp W 1 3 rfl (qp W 1 4 rfl (ql 5 rfl 4 Tryz.isAgg50 rfl rfl rfl (qt (v:= .agg (iy 4 a.aa.bC 0 0 3 0 0 0 d.aU 0 0 0 0 0 0 false [] [] u 0 x j r.length l none 0 0).toArray) 6 rfl (λ _ ⟨_,H9⟩=>Il rfl (Io (cs:=(iy 4 a.aa.bC 0 0 3 0 0 0 d.aU 0 0 0 0 0 0 false [] [] u 0 x j r.length l none 0 0)) Tryz.isAgg47 Tryz.sizeOf47 ((H9.cls (i:=0) rfl).lit (k:=0) (m:=21) rfl))) ?_))))))
 refine qd 7 rfl (IZ (cs:=(iy 4 a.aa.bC 0 0 3 0 0 0 d.aU 0 0 0 0 0 0 false [] [] u 0 x j r.length l none 0 0)) (t:=47) (sz:=21) (m:=1) bA rfl rfl (λ _=>by kernel_rfl) rfl f5 ?_)
 intro aT bB aG
 replace aG:=IL (y:=row aT 1 1 (q2 bV.cells ([(bV.mk 4 a.aa.bC 0 0 3 0 0 0 d.aU 0 0 0 0 0 0 false (aj.mk [] []) (N1 u x []) (N1 j l A) (N1 none 0 []))])) 47 21) (congrArg (λ z9=>row aT 1 1 [vI 4,vI a.aa.bC,vI 0,vI 0,vI 3,vI 0, .int .u64 0, .int .u64 0,vU d.aU, .int .u64 0, .int .u64 0, .int .u64 0, .int .u64 0, .int .u64 0, .int .u64 0, .bool false, .string ⟨v0 []⟩, .string ⟨v0 []⟩, .slice u 0 x, .slice j z9 l, .slice none 0 0] 47 21) (aY Q).symm) aG
 have aV:=aG.pb [0]
 refine⟨.inr ⟨_,aV⟩, ?_⟩
 have bC:Own w D bB (row none 0 0 (q2 bM.cells []) 83 2::_):=aV.free (bZ 83 2)
 have aW:=bC.pf [9,10,2,3,0,4]
 refine qd 8 rfl (IC (k:=h.av.bD.ls.length) (m:=1) (sK) aW rfl rfl (eY R6 (aW.rds (i:=11) rfl) (cZ bV.one ([(bV.mk 4 a.aa.bC 0 0 3 0 0 0 d.aU 0 0 0 0 0 0 false (aj.mk [] []) (N1 u x []) (N1 j l A) (N1 none 0 []))]))) rfl e8 (s:=q7 (h.av.bD.ls++ [(dL.mk 4 a.aa.bC 0 0 3 0 0 0 d.aU 0 0 0 0 0 0 false (aj.mk [] []) (F2 []) (F2 r) (F2 []))])) f3 (t7).symm ?_)
 intro aZ bf bD bE
 have bF:=bE.pf [3]
 have bG:=KE (aY Q).symm bF
 have bH:=bG.pf [2,3,0,4,5]
 have bJ:Own w D bD (sepL (q2 IR (z++ [(bV.mk 4 a.aa.bC 0 0 3 0 0 0 d.aU 0 0 0 0 0 0 false (aj.mk [] []) (N1 u x []) (N1 j l A) (N1 none 0 []))]))::_):=bH.sepAdd (L2:= [row u 0 x (q2 aX.cells []) 68 6,row j A.length l (q2 aR.cells A) 70 3,row none 0 0 (q2 bM.cells []) 83 2,sepL (q2 IJ A)]) (t7 (f:=IR) (xs:=z) (ys:= [(bV.mk 4 a.aa.bC 0 0 3 0 0 0 d.aU 0 0 0 0 0 0 false (aj.mk [] []) (N1 u x []) (N1 j l A) (N1 none 0 []))])).symm
 have cB:q7 (h.av.bD.ls++ [(dL.mk 4 a.aa.bC 0 0 3 0 0 0 d.aU 0 0 0 0 0 0 false (aj.mk [] []) (F2 []) (F2 r) (F2 []))])=h.av.bD.ls.length+1:=by simp only [o0,r5,K1]
 have cK:=aY (jI (es:= [(bV.mk 4 a.aa.bC 0 0 3 0 0 0 d.aU 0 0 0 0 0 0 false (aj.mk [] []) (N1 u x []) (N1 j l A) (N1 none 0 []))]) (ms:= [(dL.mk 4 a.aa.bC 0 0 3 0 0 0 d.aU 0 0 0 0 0 0 false (aj.mk [] []) (F2 []) (F2 r) (F2 []))]) M (congrArg (λ z9=> [dL.mk 4 a.aa.bC 0 0 3 0 0 0 d.aU 0 0 0 0 0 0 false (aj.mk [] []) (F2 []) (F2 z9) (F2 [])]) Q))
 refine⟨.inl e9, ?_⟩
 refine IP (v:=vP W 0) 9 rfl e9 (λ _=>yk) (IP (v:=vP W 1) 10 rfl e9 (λ _=>yk) (IP (v:=vP W 1) 11 rfl e9 (λ _=>yk) ?_))
 have bK:=bJ.pf [3]
 refine qe 12 rfl (Do.store (vs:= [.slice aZ (q7 (h.av.bD.ls++ [(dL.mk 4 a.aa.bC 0 0 3 0 0 0 d.aU 0 0 0 0 0 0 false (aj.mk [] []) (F2 []) (F2 r) (F2 []))])) bf]) (o:=1) bK rfl rfl Tryz.sizeOf50 rfl rfl rfl rfl ?_)
 intro dE bL
 refine⟨.inl e9, ?_⟩
 refine qn (IV (res0 rfl) (nt (H7 ?_)))
 have bN:=bL.pk [0,1,2,4,5]
 refine H8 (An rfl (rt (rs ?_)))
 have bP:=bN.pf [0,2]
 obtain⟨rfl,rfl⟩:=fB (zj hr zq2)
 exact⟨aZ,bf,(z++ [(bV.mk 4 a.aa.bC 0 0 3 0 0 0 d.aU 0 0 0 0 0 0 false (aj.mk [] []) (N1 u x []) (N1 j l A) (N1 none 0 []))]),rfl,bP,(jI (es:= [(bV.mk 4 a.aa.bC 0 0 3 0 0 0 d.aU 0 0 0 0 0 0 false (aj.mk [] []) (N1 u x []) (N1 j l A) (N1 none 0 []))]) (ms:= [(dL.mk 4 a.aa.bC 0 0 3 0 0 0 d.aU 0 0 0 0 0 0 false (aj.mk [] []) (F2 []) (F2 r) (F2 []))]) M (congrArg (λ z9=> [dL.mk 4 a.aa.bC 0 0 3 0 0 0 d.aU 0 0 0 0 0 0 false (aj.mk [] []) (F2 []) (F2 z9) (F2 [])]) Q)),f0⟩
 refine jT (dT ak) (sr (Mz rfl (An rfl (rt (tR (rs ?_))))))
 have bQ:=ai.pk [2,6,7,3,4]
 obtain⟨rfl,rfl⟩:=fB (zj hr zq2).symm
 exact⟨T,U,z,rfl,bQ,M,f0⟩
def fZ (e:bI):List aX->List aX->(List aX)
  | [],a=>a
  | b::c,a=>bnd (pg b) λ d=>if d=true then fZ e c (a++ [b]) else fZ e c a
def jw (a:bI) (l1:List aX) (b:ax):bI:=
 bnd (fZ a l1 a.av.aL.ls) λ sLrL=>bI.mk (dH.mk (F2 a.av.bD.ls) (F2 sLrL) a.av.bU) (F2 a.bE.ls)
theorem vY (w D z) (g:bI) (E F G I J K Y n1 c1 l1 d) (a:ax) (h j l n o p r t u x) (Z:bI) (H:Own w D w [blk z [.pointer (some ⟨d,0,none⟩), .slice E g.av.bD.ls.length F, .slice G g.av.aL.ls.length I, .bool g.av.bU, .slice J g.bE.ls.length K] 92,row G g.av.aL.ls.length I (q2 aX.cells g.av.aL.ls) 68 6,blk d (kB a h a.aa.ah.ls.length j l a.aa.ak.ls.length n o a.aa.af.ls.length p a.aa.bi u r a.ag.ls.length t x) 80]) (U:Ro w D λ w'=>bO w' 6 Y n1 (q2 aX.cells l1)) (aB:n1=l1.length) (aV:l1.length *80<=211106232532992) (aW:l1.length<=24/\g.av.aL.ls.length<=100) (hr:jw g l1 a=Z):
    Calls u9 86 #[vP z 0, .slice Y n1 c1] w (dI λ v w'=> ∃ L M,v= .tuple #[]/\Own w D w' [blk z [vP d 0, .slice E g.av.bD.ls.length F, .slice L Z.av.aL.ls.length M, .bool g.av.bU, .slice J g.bE.ls.length K] 92,row L Z.av.aL.ls.length M (q2 aX.cells Z.av.aL.ls) 68 6,blk d (kB a h a.aa.ah.ls.length j l a.aa.ak.ls.length n o a.aa.af.ls.length p a.aa.bi u r a.ag.ls.length t x) 80]/\(Z.av.aL.ls.length<=g.av.aL.ls.length+l1.length)):=by
 unfold jw at hr
 subst aB
 have aC:=zr 1 H
 refine cb Tryz.func86 ?_
 refine sr (Mz rfl (Kz (vJ l1.length) (Mn rfl (bo ?_))))
 have aD:=H.pb [1]
 obtain⟨aF,A⟩:=vQ λ (b:Nat) B (C:Nat) c w'=>Own w D w' [blk z [vP d 0, .slice E g.av.bD.ls.length F, .slice B c.length C, .bool g.av.bU, .slice J g.bE.ls.length K] 92,blk d (kB a h a.aa.ah.ls.length j l a.aa.ak.ls.length n o a.aa.af.ls.length p a.aa.bi u r a.ag.ls.length t x) 80,row B c.length C (q2 aX.cells c) 68 6]/\b<=l1.length/\c.length<=g.av.aL.ls.length+b/\fZ g l1 g.av.aL.ls=fZ g (s0 b l1) c
 refine y6 (λ i:Nat × (Option Addr) × Nat × (List aX)=> [(8,vJ i.1),(7,vJ l1.length),(6, .slice Y l1.length c1),(0,vP z 0)]) aF (λ i=>l1.length - i.1) (0,G,I,g.av.aL.ls) ⟨rfl,rfl,rfl,rfl,trivial⟩ (A.2 ⟨aD,e8,e8,rfl⟩) ?_
 rintro ⟨b,B,C,c⟩ aY aa
 show Wp _ _ _ [(8,vJ b),(7,vJ l1.length),(6, .slice Y l1.length c1),(0,vP z 0)] _ _
 obtain⟨N,aQ,aR,O⟩:=A.1 aa
 refine sr (Kz (.bool (decide ((b:Int) < (l1.length:Int)))) (nt (H7 ?_)))
 by_cases af:(b:Int) < (l1.length:Int)
 obtain⟨f,S⟩:=dG (ls:=l1) (i:=b) aX.len f5 (N.ro U) f2
 have T:=drop_at S
 refine jT (dT af) (sk (H7 (bo (sr (fw (.pointer (some ⟨ab Y,ao Y+b *6,none⟩)) (Im (nN) rfl rfl ((N.ro U).addr (i:=b) e8) e8) (fw (.agg (aX.cells f).toArray) (Il rfl (Io (cs:=(aX.cells f)) C4 C2 ((N.ro U).elem aX.len S f5))) ?_))))))
 refine bW [vI 0, .string ⟨v0 []⟩, .string ⟨v0 []⟩, .string ⟨v0 []⟩, .string ⟨v0 []⟩,vI 0] 68 N ?_
 intro aZ bf aG
 refine cu (aX.cells f) 0 aG C2 ?_
 intro bg ag
 refine nt (H7 (sr (La (aX.cells f) ag 0 C4 C2 ?_)))
 obtain⟨V,P⟩:∃ q,pg f=q:=⟨_,rfl⟩
 obtain⟨bi,ah,aS,ai,aT⟩:=Ia ag
 refine cl Tryz.call140 (wH _ _ f V ah P) ?_
 rintro _ bn ⟨rfl,aj⟩
 have W:=ai _ _ aj
 refine Kz (.bool (!V)) (nt ?_)
 rcases Lr (V) with Q | Q
 refine jF (cn Q) (sk (sr (Mz rfl (La (aX.cells f) W 0 C4 C2 ?_))))
 refine jN (aX.cells f) 68 6 1 W ?_
 intro aH bq R
 replace R:=IL (y:=row aH 1 1 (q2 aX.cells ([f])) 68 6) rfl R
 refine WL.do rfl (IB Tryz.call95 rfl ?_ (λ _ _ k=>k))
 refine cb Tryz.func95 ?_
 refine H8 (Mz rfl (Mz rfl (Kz (vP z 0) (Kz (vP z 1) (Kz (vP z 2) (Lz (.slice B c.length C) R 2 E3 (Mz rfl ?_)))))))
 have ak:=R.pf [4]
 refine WL.do rfl (IC (k:=c.length) (m:=1) (nN) ak rfl rfl (eY Q0 (ak.rds (i:=1) rfl) (cZ aX.one ([f]))) rfl e8 (s:=q7 (c++ [f])) f3 (t7).symm ?_)
 intro au av bu aI
 have aU:q7 (c++ [f])=c.length+1:=by simp only [o0,r5,K1]
 refine Kz (vP z 0) (Kz (vP z 1) (Kz (vP z 2) ?_))
 have aJ:=aI.pf [3]
 refine cu [.slice au (q7 (c++ [f])) av] 2 aJ Q9 ?_
 intro bv aK
 refine B6 (IV (res0 rfl) (nt (H7 ?_)))
 have X:=aK.px [] [2] []
 refine H8 (Mz rfl (Kz (vP z 0) (Kz (vP z 0) (Lz (vP d 0) X 0 Q8 (Kz (vP d 0) (Kz (vP d 20) (Lz (.pointer none) X 3 Tryz.isAgg78 (Kz (.bool false) (nt (jf (IG (bN (Ib ?_)))))))))))))
 have aL:=X.pk [0,1,3]
 refine H8 (fw (vJ (b+1)) (Ig (e:=B5.wrap ((b:Int)+1)) yk f1) (Mz rfl (B6 ?_)))
 have aM:=aL.pb [1]
 exact Iq (b+1,au,av,(c++ [f])) ⟨rfl,rfl,rfl,rfl,trivial⟩ (A.2 ⟨aM,e8,e8,et (O) (et (congrArg (λ q=>fZ g q c) T) (et (ae P) (ip Q)))⟩) (by show l1.length - (b+1) < l1.length - b; omega)
 refine jT (cn Q) (B7 (Ip (Iz (Ib ?_))))
 have aN:=W.pk [1,2,3]
 refine H8 (fw (vJ (b+1)) (Ig (e:=B5.wrap ((b:Int)+1)) yk f1) (Mz rfl (B6 ?_)))
 have aO:=aN.pf []
 exact Iq (b+1,B,C,c) ⟨rfl,rfl,rfl,rfl,trivial⟩ (A.2 ⟨aO,e8,e8,et (O) (et (congrArg (λ q=>fZ g q c) T) (et (ae P) (eF Q)))⟩) (by show l1.length - (b+1) < l1.length - b; omega)
 refine jF (dF af) (B7 (Ip ?_))
 have ay:fZ g l1 g.av.aL.ls=c:=et (O) (et (congrArg (λ q=>fZ g q c) (eX (ls:=l1) (i:=b) e8)) rfl)
 refine Ip (Iz (IV (res0 rfl) ?_))
 have aP:=N.pb [1]
 obtain rfl:=zj hr zq1
 exact⟨B,C,rfl,aP,f0⟩
end
theorem wS {l:List aM} (h:Ne l) (p:aM->Bool):Ne (l.filter p):=λ r hr=>h r (List.mem_filter.1 hr).1
theorem DT {l:List aM} (hs:Up l) (h:Ne l) (t:Nat) (x:aF):Ne (iC l t x):=by
  rcases ma hs t with ⟨a,p,q,rfl,hp,ha,hq,_⟩ | ⟨a,q,rfl,ha,hq,_⟩
  . rw [vg x hp ha hq]
    intro r hr
    rcases List.mem_append.1 hr with b | b
    . exact h r (List.mem_append_left _ b)
    . rcases List.mem_cons.1 b with c | c
      . rw [c]; simp only [List.length_append,List.length_cons]; omega
      . exact h r (List.mem_append_right _ (.tail _ c))
  . rw [xe x ha hq]
    intro r hr
    rcases List.mem_append.1 hr with b | b
    . exact h r (List.mem_append_left _ b)
    . rcases List.mem_cons.1 b with c | c
      . rw [c]; simp only [List.length_append,List.length_cons]; omega
      . exact h r (List.mem_append_right _ c)
theorem sU {I:List aM->List Nat->List Nat->Prop}
    (step:∀ (m:List aM) (g d:List Nat) (r:aM),Fit m->I m g d->r ∈ m->r.bn=true->dX (aW.mk (Ll.mk m)) r.au r.bg= []->
      I ((iC m r.au r.bg).filter λ s=> !dies r.au r.bg s) (g++ [r.au]) (d++List.map (λ q:aM=>q.au) ((iC m r.au r.bg).filter (dies r.au r.bg)))):
    ∀ (q:Nat) (l:List aM) (g d:List Nat),Wt l < q->Fit l->I l g d->I (dz q l g d).1 (dz q l g d).2.1 (dz q l g d).2.2/\Fit (dz q l g d).1/\(kv (aW.mk (Ll.mk (dz q l g d).1))).2=false:=by
  intro q
  induction q with
  | zero=>intro l g d h; omega
  | succ q ih=>
    intro l g d hq hf hI
    rw [dz]
    simp only [bK]
    cases hn:kv (aW.mk (Ll.mk l)) with
    | mk a b=>
      cases b with
      | false=>simp only [Bool.false_eq_true,if_false]; exact⟨hI,hf,by rw [hn]⟩
      | true=>
        simp only [if_true]
        obtain⟨r,hr,hw,ht,hx,hh⟩:=xP hn
        have hs:=xB hf hn (pM hf.up a.aU a.nL (eZ.mk (Ll.mk g) (Ll.mk d)))
        rw [pM hf.up]
        rw [<- ht, <- hx] at hs hh ⊢
        exact ih _ _ _ (Nat.lt_of_lt_of_le hs.2.1 (Nat.le_of_lt_succ hq)) hs.1 (step l g d r hf hI hr hw hh)
theorem rW (m:List aM) (c:eZ):kw (aW.mk (Ll.mk m)) c=
    (aW.mk (Ll.mk (dz (Wt m+1) m c.aS.ls c.dE.ls).1),eZ.mk (Ll.mk (rq (dz (Wt m+1) m c.aS.ls c.dE.ls).2.1)) (Ll.mk (rq (dz (Wt m+1) m c.aS.ls c.dE.ls).2.2))):=by
  unfold kw
  simp only [bK,Ff]
theorem wT {m:List aM} (hf:Fit m) (hn:Ne m) (ht:kC m<=192) (g d:List Nat):jy (dz (Wt m+1) m g d).1:=by
  have h:=sU (I:=λ l _ _=>Ne l/\kC l<=192) (λ m g d r hf hI hr hw _=>by
    obtain⟨_,a,_⟩:=vz hf.up hr hw r.bg
    exact⟨wS (DT hf.up hI.1 _ _) _,Nat.le_trans (lV _ _) (show kC (iC m r.au r.bg)<=192 by rw [a]; exact hI.2)⟩) (Wt m+1) m g d e8 hf ⟨hn,ht⟩
  exact⟨h.2.1.up,h.1.1,h.1.2⟩
theorem zZ {m:List aM} (h:jy m) {t:Nat} {g d:List Nat} {r:aW} (hr:iD (aW.mk (Ll.mk m)) t=(g,d,r)):jy r.ai.ls:=by
  unfold iD at hr
  rw [bK,bK,qH h.up,rW] at hr
  have e:r=_:=(congrArg (λ q=>q.2.2) hr).symm
  rw [e]
  exact wT (h.fit.filter _) (wS h.ne _) (Nat.le_trans (lV _ _) h.tot) _ _
theorem CV {l:List aM} (h:kC l<=192):mD (aW.mk (Ll.mk l))=(kC l:Int):=by
  have go:∀ (l:List aM) (z:Nat),z+kC l<=192->gX l (z:Int)=((z+kC l:Nat):Int):=by
    intro l
    induction l with
    | nil=>intro z h; rfl
    | cons a l ih=>
      intro z h
      unfold kC oP at h
      simp only [List.map_cons,List.sum_cons] at h
      rw [gX]
      by_cases c:a.bn=true
      . rw [if_pos c] at h
        rw [if_pos c,Lj (IntKind.i64.wrap _+1) f1,Lj _ e8,show (z:Int)+(a.aG.ls.length:Int)+1=((z+(a.aG.ls.length+1):Nat):Int) from by omega,ih _ (by unfold kC oP; omega)]
        unfold kC oP
        simp only [List.map_cons,List.sum_cons,if_pos c]
        omega
      . rw [if_neg c] at h
        rw [if_neg c,Lj _ e8,show (z:Int)+(a.aG.ls.length:Int)=((z+a.aG.ls.length:Nat):Int) from by omega,ih _ (by unfold kC oP; omega)]
        unfold kC oP
        simp only [List.map_cons,List.sum_cons,if_neg c]
        omega
  unfold mD
  rw [bK]
  have:=go l 0 e8
  rw [Nat.zero_add] at this
  exact this
def oQ (l:List aM) (t:Nat) (x:aF):List aM:=(l.filter λ r=>decide (r.au < t))++(aM.mk t (Ll.mk (old l t)) true x::l.filter λ r=>decide (t < r.au))
theorem Bc {a q:List aM} {p:aM} {t:Nat} (x:aF) (hp:p.au=t) (ha:∀ r ∈ a,r.au < t) (hq:∀ r ∈ q,t < r.au):oQ (a++p::q) t x=a++aM.mk t (Ll.mk p.aG.ls) true x::q:=by
  have h:=vg x hp ha hq
  unfold iC at h
  unfold oQ
  have b:=List.append_inj h (by
    have:(List.filter (λ r:aM=>decide (r.au < t)) (a++p::q))=a:=by
      rw [List.filter_append,List.filter_cons_of_neg (by simp [hp]),mV (λ r hr=>decide_eq_true (ha r hr)),List.filter_eq_nil_iff.2 (λ r hr=>by simp; have:=hq r hr; omega),List.append_nil]
    rw [this])
  have c:=List.cons.inj b.2
  rw [b.1,c.2]
  have d:old (a++p::q) t++ [x]=p.aG.ls++ [x]:=congrArg (λ r:aM=>r.aG.ls) c.1
  rw [(List.append_inj' d rfl).1]
theorem Be {a q:List aM} {t:Nat} (x:aF) (ha:∀ r ∈ a,r.au < t) (hq:∀ r ∈ q,t < r.au):oQ (a++q) t x=a++aM.mk t (Ll.mk []) true x::q:=by
  have h:=xe x ha hq
  unfold iC at h
  unfold oQ
  have b:=List.append_inj h (by
    have:(List.filter (λ r:aM=>decide (r.au < t)) (a++q))=a:=by
      rw [List.filter_append,mV (λ r hr=>decide_eq_true (ha r hr)),List.filter_eq_nil_iff.2 (λ r hr=>by simp; have:=hq r hr; omega),List.append_nil]
    rw [this])
  have c:=List.cons.inj b.2
  rw [b.1,c.2]
  have d:old (a++q) t++ [x]= []++ [x]:=congrArg (λ r:aM=>r.aG.ls) c.1
  rw [(List.append_inj' d rfl).1]
def gR (m:List aM) (t:Nat) (x:aF):List aM:=(iC m t x).filter λ r=> !dies t x r
def gD (m:List aM) (t:Nat) (x:aF):List Nat:=List.map (λ q:aM=>q.au) ((iC m t x).filter (dies t x))
def nX (m:List aM) (t:Nat) (x:aF):Int × List Nat × List Nat × Int × List aM:=
  if dU x.aA=0 then
    if fI (aW.mk (Ll.mk m)) t=true then(0, [], [],4,m)
    else if jW (aW.mk (Ll.mk m)) t x=true then(1, [], [],0,m)
    else if 192<=kC m then(3, [], [],0,m)
    else if dX (aW.mk (Ll.mk m)) t x= [] then
      (1,rq (dz (Wt (gR m t x)+1) (gR m t x) [] (gD m t x)).2.1,rq (dz (Wt (gR m t x)+1) (gR m t x) [] (gD m t x)).2.2,0,(dz (Wt (gR m t x)+1) (gR m t x) [] (gD m t x)).1)
    else if List.getD (dX (aW.mk (Ll.mk m)) t x) 0 default < t then(3, [], [],0,m)
    else(2, [], [],0,oQ m t x)
  else(0, [], [],21,m)
theorem vE {m:List aM} (h:jy m) (t:Nat) (x:aF):iT (aW.mk (Ll.mk m)) t x=((nX m t x).1,(nX m t x).2.1,(nX m t x).2.2.1,(nX m t x).2.2.2.1,aW.mk (Ll.mk (nX m t x).2.2.2.2)):=by
  unfold iT nX
  simp only [bK]
  by_cases b:dU x.aA=0
  . rw [if_pos b,if_pos b]
    by_cases c:fI (aW.mk (Ll.mk m)) t=true
    . rw [if_pos c,if_pos c]
    . rw [if_neg c,if_neg c]
      by_cases d:jW (aW.mk (Ll.mk m)) t x=true
      . rw [if_pos d,if_pos d]
      . rw [if_neg d,if_neg d,CV h.tot]
        by_cases g:192<=kC m
        . rw [if_pos e8,if_pos g]
        . rw [if_neg e8,if_neg g]
          by_cases f:dX (aW.mk (Ll.mk m)) t x= []
          . rw [if_pos (by rw [f]; rfl),if_pos f,pM h.up]
            simp only
            rw [rW]
            rfl
          . rw [if_neg (show ¬ ((List.length (dX (aW.mk (Ll.mk m)) t x):Nat):Int)=0 from λ e=>f (List.eq_nil_of_length_eq_zero (Int.ofNat.inj e))),if_neg f]
            by_cases i:List.getD (dX (aW.mk (Ll.mk m)) t x) 0 default < t
            . rw [if_pos e8,if_pos i]
            . rw [if_neg e8,if_neg i]
              rcases ma h.up t with ⟨a,p,q,rfl,hp,ha,hq,hf⟩ | ⟨a,q,rfl,ha,hq,hf⟩
              . rw [hf,if_pos rfl,Bc x hp ha hq]
                simp only [Int.toNat_natCast,gd,stt]
                rw [<- hp]
              . have j:List.drop a.length (a++q)=q:=List.drop_left' rfl
                have k:List.take a.length (a++q)=a:=List.take_left' rfl
                rw [hf,if_neg i3,Be x ha hq]
                simp only [Int.toNat_natCast,j,k,gd,stt]
  . rw [if_neg b,if_neg b]
theorem EE {m:List aM} (hs:Up m) (t:Nat) (x:aF) (hw:fI (aW.mk (Ll.mk m)) t≠true):Up (oQ m t x)/\(Ne m->Ne (oQ m t x))/\kC (oQ m t x)=kC m+1:=by
  unfold fI at hw
  rw [bK] at hw
  rcases ma hs t with ⟨a,p,q,rfl,hp,ha,hq,hf⟩ | ⟨a,q,rfl,ha,hq,hf⟩
  . rw [hf,if_pos rfl,bK] at hw
    simp only [Int.toNat_natCast,gd] at hw
    rw [Bc x hp ha hq]
    have h:=List.pairwise_append.1 hs
    have b:=List.pairwise_cons.1 h.2.1
    refine⟨yI (List.pairwise_append.2 ⟨h.1,b.2,λ r hr s hs=>h.2.2 r hr s (.tail _ hs)⟩) rfl ha hq,λ hn r hr=> ?_, ?_⟩
    . rcases List.mem_append.1 hr with c | c
      . exact hn r (List.mem_append_left _ c)
      . rcases List.mem_cons.1 c with b | b
        . rw [b]; unfold oP; rw [if_pos rfl]; omega
        . exact hn r (List.mem_append_right _ (.tail _ b))
    . unfold kC oP; simp only [List.map_append,List.map_cons,List.sum_append,List.sum_cons]; rw [if_neg hw]; simp; omega
  . rw [Be x ha hq]
    refine⟨yI hs rfl ha hq,λ hn r hr=> ?_, ?_⟩
    . rcases List.mem_append.1 hr with c | c
      . exact hn r (List.mem_append_left _ c)
      . rcases List.mem_cons.1 c with b | b
        . rw [b]; unfold oP; rw [if_pos rfl]; omega
        . exact hn r (List.mem_append_right _ b)
    . unfold kC oP; simp only [List.map_append,List.map_cons,List.sum_append,List.sum_cons]; simp; omega
theorem CW {m:List aM} (h:jy m) (t:Nat) (x:aF):jy (nX m t x).2.2.2.2:=by
  unfold nX
  by_cases b:dU x.aA=0
  . rw [if_pos b]
    by_cases a:fI (aW.mk (Ll.mk m)) t=true
    . rw [if_pos a]; exact h
    . rw [if_neg a]
      by_cases c:jW (aW.mk (Ll.mk m)) t x=true
      . rw [if_pos c]; exact h
      . rw [if_neg c]
        by_cases d:192<=kC m
        . rw [if_pos d]; exact h
        . rw [if_neg d]
          by_cases e:dX (aW.mk (Ll.mk m)) t x= []
          . rw [if_pos e]
            obtain⟨n,o⟩:=uQ m h.up t x
            have i:Ne (iC m t x):=DT h.up h.ne t x
            have j:kC (gR m t x)<=192:=Nat.le_trans (lV _ _) (show kC (iC m t x)<=192 by omega)
            have f:Ne (gR m t x):=wS i _
            exact wT ⟨(q8 h.up t x).filter _,show List.length (gR m t x)<=999999 by have:=zt f; omega,show kC (gR m t x)<=1000000 by omega⟩ f j _ _
          . rw [if_neg e]
            by_cases g:List.getD (dX (aW.mk (Ll.mk m)) t x) 0 default < t
            . rw [if_pos g]; exact h
            . rw [if_neg g]
              obtain⟨k,l,p⟩:=EE h.up t x a
              exact⟨k,l h.ne,by show kC (oQ m t x)<=192; omega⟩
  . rw [if_neg b]; exact h
theorem DU {m:List aM} (h:jy m) {t:Nat} {x:aF} {s e:Int} {g d:List Nat} {r:aW} (hr:iT (aW.mk (Ll.mk m)) t x=(s,g,d,e,r)):jy r.ai.ls:=by
  rw [vE h] at hr
  have e:r=_:=(congrArg (λ q=>q.2.2.2.2) hr).symm
  rw [e]
  exact CW h t x
theorem DV:jy []:=⟨List.Pairwise.nil,λ r hr=>(by cases hr),Lm _⟩
open List renaming getElem?_drop->m4,getElem?_eq_getElem->p5,getElem?_eq_none->R9,getElem?_eq_some_iff->p4,getElem?_take->m3,length_take->m8,mem_iff_getElem?->M6,pairwise_append->O5,pairwise_cons->M2,pairwise_iff_getElem->R7,take->t6,take_append_drop->s4
open Nat renaming le_of_not_lt->S0,lt_or_ge->M5,lt_trans->R8
def r9 (l:List bB):Prop:=l.Pairwise λ a b=>a.au < b.au
theorem yM {l:List bB} (hs:r9 l) {i j:Nat} {a b:bB} (ha:l[i]? =some a) (hb:l[j]? =some b) (h:i < j):a.au < b.au:=by
  obtain⟨c,rfl⟩:=p4.1 ha
  obtain⟨d,rfl⟩:=p4.1 hb
  exact R7.1 hs i j c d h
theorem xW {m:List bB} (hs:r9 m) (k:Nat):∀ (f i j:Nat),j - i < f->i<=j->j<=m.length->(∀ q p,m[q]? =some p->q < i->p.au < k)->(∀ q p,m[q]? =some p->j<=q->¬ p.au < k)->
    ∃ r,df m k f i j=r/\r<=m.length/\(∀ q p,m[q]? =some p->q < r->p.au < k)/\(∀ q p,m[q]? =some p->r<=q->¬ p.au < k)
  | 0,i,j,h,_,_,_,_=>e8
  | f+1,i,j,h,hij,hj,hl,hg=>by
    unfold df
    by_cases b:(i:Int) < (j:Int)
    . obtain⟨x,hx⟩:∃ x,m[(i+j) / 2]? =some x:=⟨_,p5 e8⟩
      rw [if_pos b,bK,bK,bu hx]
      show ∃ r,(if eG x.au k < 0 then df m k f ((i+j) / 2+1) j else df m k f i ((i+j) / 2))=r/\_
      by_cases a:eG x.au k < 0
      . rw [if_pos a]
        refine xW hs k f _ j e8 e8 hj (λ q p hq hlt=> ?_) hg
        rcases M5 q ((i+j) / 2) with e | e
        . exact R8 (yM hs hq hx e) (ny.1 a)
        . have:q=(i+j) / 2:=e8
          subst this
          rw [hx] at hq; cases hq
          exact ny.1 a
      . rw [if_neg a]
        refine xW hs k f i _ e8 e8 e8 hl (λ q p hq hge hlt=> ?_)
        rcases M5 ((i+j) / 2) q with e | e
        . exact a (ny.2 (R8 (yM hs hx hq e) hlt))
        . have:q=(i+j) / 2:=e8
          subst this
          rw [hx] at hq; cases hq
          exact a (ny.2 hlt)
    . rw [if_neg b]
      have:i=j:=e8
      subst this
      exact⟨i,rfl,hj,hl,hg⟩
structure Hr (m:List bB) (k:Nat) (a b:List bB):Prop where
  app:m=a++b
  lo:∀ p ∈ a,p.au < k
  hi:∀ p ∈ b,k<=p.au
theorem DW {m:List bB} (hs:r9 m) (k:Nat):∃ a b,Hr m k a b/\(bF m k).1=((a.length:Nat):Int)/\((bF m k).2=true↔∃ p q,b=p::q/\p.au=k):=by
  obtain⟨r,d,i,f,g⟩:=xW hs k (m.length - 0+1) 0 m.length e8 e8 (Nat.le_refl _) (λ q p _ h=>e8) (λ q p hq h=>by have:=(p4.1 hq).1; omega)
  have hlen:(t6 r m).length=r:=by rw [m8]; omega
  have e:bF m k=((r:Int),(bF m k).2)/\((bF m k).2=true↔∃ p,m[r]? =some p/\p.au=k):=by
    unfold bF
    simp only [bK,d]
    by_cases c:(r:Int) < ((List.length m:Nat):Int)
    . obtain⟨x,hx⟩:∃ x,m[r]? =some x:=⟨_,p5 e8⟩
      rw [if_pos c,bu hx]
      refine⟨rfl, ?_⟩
      show decide (eG x.au k=0)=true↔_
      simp only [decide_eq_true_eq,wQ,hx,Option.some.injEq,exists_eq_left']
    . rw [if_neg c]
      refine⟨rfl, ?_⟩
      have:m[r]? =none:=R9 e8
      simp [this]
  refine⟨t6 r m,s0 r m,⟨(s4 r m).symm,λ p hp=> ?_,λ p hp=> ?_⟩, ?_, ?_⟩
  . obtain⟨j,hj⟩:=M6.1 hp
    have hjr:j < r:=by have:=(p4.1 hj).1; omega
    rw [m3,if_pos hjr] at hj
    exact f j p hj hjr
  . obtain⟨j,hj⟩:=M6.1 hp
    rw [m4] at hj
    exact S0 (g _ p hj e8)
  . rw [e.1,hlen]
  . rw [e.2]
    constructor
    . rintro ⟨p,hp,hk⟩
      exact⟨p,s0 (r+1) m,drop_at hp,hk⟩
    . rintro ⟨p,q,hp,hk⟩
      refine⟨p, ?_,hk⟩
      have:(s0 r m)[0]? =some p:=by rw [hp]; rfl
      rwa [m4,Nat.add_zero] at this
theorem Bf {a b:List bB} {p:bB} (h:r9 (a++p::b)):r9 a/\r9 b/\(∀ r ∈ a,r.au < p.au)/\(∀ r ∈ b,p.au < r.au):=by
  have c:=O5.1 h
  have d:=M2.1 c.2.1
  exact⟨c.1,d.2,λ r hr=>c.2.2 r hr p b3,d.1⟩
theorem si {m:List bB} (hs:r9 m) (t:Nat):
    (∃ a p q,m=a++p::q/\p.au=t/\(∀ r ∈ a,r.au < t)/\(∀ r ∈ q,t < r.au)/\bF m t=((a.length:Int),true))\/
    (∃ a q,m=a++q/\(∀ r ∈ a,r.au < t)/\(∀ r ∈ q,t < r.au)/\bF m t=((a.length:Int),false)):=by
  obtain⟨a,b,hc,f,g⟩:=DW hs t
  have e:∀ x:Int × Bool,x=(x.1,x.2):=λ _=>rfl
  cases hb:(bF m t).2 with
  | true=>
    obtain⟨p,q,rfl,hp⟩:=g.1 hb
    refine .inl ⟨a,p,q,hc.app,hp,hc.lo,λ r hr=> ?_, ?_⟩
    . have:=(Bf (hc.app ▸ hs)).2.2.2 r hr; omega
    . rw [e (bF _ _),f,hb]
  | false=>
    refine .inr ⟨a,b,hc.app,hc.lo,λ r hr=> ?_, ?_⟩
    . have i:=hc.hi r hr
      rcases M5 t r.au with h | h
      . exact h
      . exfalso
        have c:r.au=t:=e8
        cases b with
        | nil=>cases hr
        | cons p q=>
          have hup:=Bf (hc.app ▸ hs)
          rcases List.mem_cons.1 hr with d | d
          . exact absurd (g.2 ⟨p,q,rfl,by rw [<- d]; exact c⟩) (by rw [hb]; decide)
          . have:=hup.2.2.2 r d; have:=hc.hi p b3; omega
    . rw [e (bF _ _),f,hb]
def vT (l:List dA):Prop:=l.Pairwise λ a b=>a.aU < b.aU
theorem DX {l:List dA} (hs:vT l) {i j:Nat} {a b:dA} (ha:l[i]? =some a) (hb:l[j]? =some b) (h:i < j):a.aU < b.aU:=by
  obtain⟨c,rfl⟩:=p4.1 ha
  obtain⟨d,rfl⟩:=p4.1 hb
  exact R7.1 hs i j c d h
theorem xX {m:List dA} (hs:vT m) (k:Nat):∀ (f i j:Nat),j - i < f->i<=j->j<=m.length->(∀ q p,m[q]? =some p->q < i->p.aU < k)->(∀ q p,m[q]? =some p->j<=q->¬ p.aU < k)->
    ∃ r,dD m k f i j=r/\r<=m.length/\(∀ q p,m[q]? =some p->q < r->p.aU < k)/\(∀ q p,m[q]? =some p->r<=q->¬ p.aU < k)
  | 0,i,j,h,_,_,_,_=>e8
  | f+1,i,j,h,hij,hj,hl,hg=>by
    unfold dD
    by_cases b:(i:Int) < (j:Int)
    . obtain⟨x,hx⟩:∃ x,m[(i+j) / 2]? =some x:=⟨_,p5 e8⟩
      rw [if_pos b,bK,bK,bu hx]
      show ∃ r,(if eG x.aU k < 0 then dD m k f ((i+j) / 2+1) j else dD m k f i ((i+j) / 2))=r/\_
      by_cases a:eG x.aU k < 0
      . rw [if_pos a]
        refine xX hs k f _ j e8 e8 hj (λ q p hq hlt=> ?_) hg
        rcases M5 q ((i+j) / 2) with e | e
        . exact R8 (DX hs hq hx e) (ny.1 a)
        . have:q=(i+j) / 2:=e8
          subst this
          rw [hx] at hq; cases hq
          exact ny.1 a
      . rw [if_neg a]
        refine xX hs k f i _ e8 e8 e8 hl (λ q p hq hge hlt=> ?_)
        rcases M5 ((i+j) / 2) q with e | e
        . exact a (ny.2 (R8 (DX hs hx hq e) hlt))
        . have:q=(i+j) / 2:=e8
          subst this
          rw [hx] at hq; cases hq
          exact a (ny.2 hlt)
    . rw [if_neg b]
      have:i=j:=e8
      subst this
      exact⟨i,rfl,hj,hl,hg⟩
structure Ht (m:List dA) (k:Nat) (a b:List dA):Prop where
  app:m=a++b
  lo:∀ p ∈ a,p.aU < k
  hi:∀ p ∈ b,k<=p.aU
theorem DY {m:List dA} (hs:vT m) (k:Nat):∃ a b,Ht m k a b/\(bG m k).1=((a.length:Nat):Int)/\((bG m k).2=true↔∃ p q,b=p::q/\p.aU=k):=by
  obtain⟨r,d,i,f,g⟩:=xX hs k (m.length - 0+1) 0 m.length e8 e8 (Nat.le_refl _) (λ q p _ h=>e8) (λ q p hq h=>by have:=(p4.1 hq).1; omega)
  have hlen:(t6 r m).length=r:=by rw [m8]; omega
  have e:bG m k=((r:Int),(bG m k).2)/\((bG m k).2=true↔∃ p,m[r]? =some p/\p.aU=k):=by
    unfold bG
    simp only [bK,d]
    by_cases c:(r:Int) < ((List.length m:Nat):Int)
    . obtain⟨x,hx⟩:∃ x,m[r]? =some x:=⟨_,p5 e8⟩
      rw [if_pos c,bu hx]
      refine⟨rfl, ?_⟩
      show decide (eG x.aU k=0)=true↔_
      simp only [decide_eq_true_eq,wQ,hx,Option.some.injEq,exists_eq_left']
    . rw [if_neg c]
      refine⟨rfl, ?_⟩
      have:m[r]? =none:=R9 e8
      simp [this]
  refine⟨t6 r m,s0 r m,⟨(s4 r m).symm,λ p hp=> ?_,λ p hp=> ?_⟩, ?_, ?_⟩
  . obtain⟨j,hj⟩:=M6.1 hp
    have hjr:j < r:=by have:=(p4.1 hj).1; omega
    rw [m3,if_pos hjr] at hj
    exact f j p hj hjr
  . obtain⟨j,hj⟩:=M6.1 hp
    rw [m4] at hj
    exact S0 (g _ p hj e8)
  . rw [e.1,hlen]
  . rw [e.2]
    constructor
    . rintro ⟨p,hp,hk⟩
      exact⟨p,s0 (r+1) m,drop_at hp,hk⟩
    . rintro ⟨p,q,hp,hk⟩
      refine⟨p, ?_,hk⟩
      have:(s0 r m)[0]? =some p:=by rw [hp]; rfl
      rwa [m4,Nat.add_zero] at this
theorem Bg {a b:List dA} {p:dA} (h:vT (a++p::b)):vT a/\vT b/\(∀ r ∈ a,r.aU < p.aU)/\(∀ r ∈ b,p.aU < r.aU):=by
  have c:=O5.1 h
  have d:=M2.1 c.2.1
  exact⟨c.1,d.2,λ r hr=>c.2.2 r hr p b3,d.1⟩
theorem sj {m:List dA} (hs:vT m) (t:Nat):
    (∃ a p q,m=a++p::q/\p.aU=t/\(∀ r ∈ a,r.aU < t)/\(∀ r ∈ q,t < r.aU)/\bG m t=((a.length:Int),true))\/
    (∃ a q,m=a++q/\(∀ r ∈ a,r.aU < t)/\(∀ r ∈ q,t < r.aU)/\bG m t=((a.length:Int),false)):=by
  obtain⟨a,b,hc,f,g⟩:=DY hs t
  have e:∀ x:Int × Bool,x=(x.1,x.2):=λ _=>rfl
  cases hb:(bG m t).2 with
  | true=>
    obtain⟨p,q,rfl,hp⟩:=g.1 hb
    refine .inl ⟨a,p,q,hc.app,hp,hc.lo,λ r hr=> ?_, ?_⟩
    . have:=(Bg (hc.app ▸ hs)).2.2.2 r hr; omega
    . rw [e (bG _ _),f,hb]
  | false=>
    refine .inr ⟨a,b,hc.app,hc.lo,λ r hr=> ?_, ?_⟩
    . have i:=hc.hi r hr
      rcases M5 t r.aU with h | h
      . exact h
      . exfalso
        have c:r.aU=t:=e8
        cases b with
        | nil=>cases hr
        | cons p q=>
          have hup:=Bg (hc.app ▸ hs)
          rcases List.mem_cons.1 hr with d | d
          . exact absurd (g.2 ⟨p,q,rfl,by rw [<- d]; exact c⟩) (by rw [hb]; decide)
          . have:=hup.2.2.2 r d; have:=hc.hi p b3; omega
    . rw [e (bG _ _),f,hb]
open Int renaming toNat->G0
open List renaming filter_cons_of_neg->O7,filter_cons_of_pos->S2,length_map->r7,map_append->O2,map_cons->s8,mem_append->S1,mem_filter->P0,mem_map->S4,mem_of_getElem?->D4,mem_or_eq_of_mem_set->S5,pairwise_map->S3,set->L6,sum_append->P4,sum_cons->P1
theorem Bh:∀ (l m:List Nat),l.Nodup->(∀ x ∈ l,x ∈ m)->q7 l<=q7 m
  | [],m,_,_=>Lm _
  | a::l,m,hn,h=>by
    have hn:=List.nodup_cons.1 hn
    have ha:=h a b3
    have b:=Bh l (m.erase a) hn.2 λ x hx=>(List.mem_erase_of_ne (λ e=>hn.1 (by rw [<- e]; exact hx))).2 (h x (.tail _ hx))
    have c:=List.length_erase_of_mem ha
    have d:=List.length_pos_of_mem ha
    simp only [r5]
    omega
theorem DZ {l:List aM} (hs:Up l) {t:Nat} {x:aF} {r:aM} (hr:r ∈ iC l t x):r.au=t\/∃ s ∈ l,s.au=r.au:=by
  unfold iC at hr
  rcases S1.1 hr with h | h
  . exact .inr ⟨r,(P0.1 h).1,rfl⟩
  . rcases List.mem_cons.1 h with h | h
    . rw [h]; exact .inl rfl
    . exact .inr ⟨r,(P0.1 h).1,rfl⟩
theorem zM {S:Nat->Prop} {m:List aM} (hf:Fit m) (h:∀ r ∈ m,S r.au) (g d:List Nat):∀ r ∈ (dz (Wt m+1) m g d).1,S r.au:=
  (sU (I:=λ l _ _=> ∀ r ∈ l,S r.au) (λ l g' d' r hf hI hr hw _=>λ q hq=>by
    rcases DZ hf.up (P0.1 hq).1 with e | ⟨s,hs,e⟩
    . rw [e]; exact hI r hr
    . rw [<- e]; exact hI s hs) (Wt m+1) m g d e8 hf h).1
theorem xY {t:Nat} {x:aF}:∀ l:List aM,Wt (l.filter λ r=> !dies t x r)+q7 (l.filter (dies t x))=Wt l
  | []=>rfl
  | a::l=>by
    have ih:=xY (t:=t) (x:=x) l
    cases h:dies t x a with
    | true=>
      rw [S2 h,O7 (p:=λ r=> !dies t x r) (by show ¬ (!dies t x a)=true; rw [h]; decide)]
      have hw:a.bn=true:=by unfold dies at h; exact(Bool.and_eq_true _ _ ▸ h).1
      have b:oP a=1:=by unfold oP; rw [if_pos hw]
      unfold Wt at ih ⊢
      simp only [r5,s8,P1]; omega
    | false=>
      rw [O7 (p:=dies t x) (by rw [h]; decide),S2 (p:=λ r=> !dies t x r) (by show (!dies t x a)=true; rw [h]; rfl)]
      unfold Wt at ih ⊢
      simp only [s8,P1]; omega
theorem yN {m:List aM} (hf:Fit m) (g d:List Nat):q7 (dz (Wt m+1) m g d).2.1+q7 (dz (Wt m+1) m g d).2.2+Wt (dz (Wt m+1) m g d).1<=q7 g+q7 d+Wt m:=
  (sU (I:=λ l g' d'=>q7 g'+q7 d'+Wt l<=q7 g+q7 d+Wt m) (λ l g' d' r hf hI hr hw _=>by
    obtain⟨_,_,a⟩:=vz hf.up hr hw r.bg
    have b:=xY (t:=r.au) (x:=r.bg) (iC l r.au r.bg)
    rw [o0,o0,r7]; simp only [r5,K1]; omega) (Wt m+1) m g d e8 hf (Nat.le_refl _)).1
theorem Fs {m:List aM} (hs:Up m) (t:Nat) (x:aF):Wt (oQ m t x)<=Wt m+1:=by
  rcases ma hs t with ⟨a,p,q,rfl,hp,ha,hq,_⟩ | ⟨a,q,rfl,ha,hq,_⟩
  . rw [Bc x hp ha hq]; unfold Wt oP; simp only [O2,s8,P4,P1]; simp; omega
  . rw [Be x ha hq]; unfold Wt oP; simp only [O2,s8,P4,P1]; simp; omega
theorem Fu {m:List aM} {t:Nat} {x:aF} {r:aM} (hr:r ∈ oQ m t x):r.au=t\/∃ s ∈ m,s.au=r.au:=by
  unfold oQ at hr
  rcases S1.1 hr with h | h
  . exact .inr ⟨r,(P0.1 h).1,rfl⟩
  . rcases List.mem_cons.1 h with h | h
    . rw [h]; exact .inl rfl
    . exact .inr ⟨r,(P0.1 h).1,rfl⟩
theorem EF {m:List aM} (h:jy m) (t:Nat) (x:aF):(∀ r ∈ (nX m t x).2.2.2.2,r.au=t\/∃ s ∈ m,s.au=r.au)/\q7 (nX m t x).2.1+q7 (nX m t x).2.2.1+Wt (nX m t x).2.2.2.2<=Wt m+(if(nX m t x).1=2 then 1 else 0):=by
  have triv:∀ r ∈ m,r.au=t\/∃ s ∈ m,s.au=r.au:=λ r hr=> .inr ⟨r,hr,rfl⟩
  unfold nX
  by_cases a:dU x.aA=0
  . rw [if_pos a]
    by_cases b:fI (aW.mk (F2 m)) t=true
    . rw [if_pos b]; exact⟨triv,by simp⟩
    . rw [if_neg b]
      by_cases c:jW (aW.mk (F2 m)) t x=true
      . rw [if_pos c]; exact⟨triv,by simp⟩
      . rw [if_neg c]
        by_cases d:192<=kC m
        . rw [if_pos d]; exact⟨triv,by simp⟩
        . rw [if_neg d]
          by_cases e:dX (aW.mk (F2 m)) t x= []
          . rw [if_pos e]
            obtain⟨l,o⟩:=uQ m h.up t x
            have p:=vk m h.up t x
            have q:=h.len
            have u:=h.tot
            have v:=xY (t:=t) (x:=x) (iC m t x)
            have g:kC (gR m t x)<=kC (iC m t x):=lV _ _
            have w:q7 (gR m t x)<=q7 (iC m t x):=List.length_filter_le _ _
            have hf:Fit (gR m t x):=⟨(q8 h.up t x).filter _,e8,e8⟩
            refine⟨zM (S:=λ n=>n=t\/∃ s ∈ m,s.au=n) hf (λ r hr=> ?_) _ _, ?_⟩
            . exact DZ h.up (P0.1 hr).1
            . have i:=yN hf [] (gD m t x)
              have j:q7 (gD m t x)=q7 ((iC m t x).filter (dies t x)):=r7 ..
              have k:Wt (gR m t x)=Wt ((iC m t x).filter λ r=> !dies t x r):=rfl
              simp only [zu]
              simp only [K1] at i
              omega
          . rw [if_neg e]
            by_cases f:List.getD (dX (aW.mk (F2 m)) t x) 0 default < t
            . rw [if_pos f]; exact⟨triv,by simp⟩
            . rw [if_neg f]
              refine⟨λ r hr=>Fu hr, ?_⟩
              have:=Fs h.up t x
              simpa using this
  . rw [if_neg a]; exact⟨triv,by simp⟩
theorem zA {m:List aM} (h:jy m) {t:Nat} {x:aF} {s e:Int} {g d:List Nat} {r:aW} (hr:iT (aW.mk (F2 m)) t x=(s,g,d,e,r)):
    (∀ q ∈ r.ai.ls,q.au=t\/∃ s ∈ m,s.au=q.au)/\q7 g+q7 d+Wt r.ai.ls<=Wt m+(if s=2 then 1 else 0):=by
  have a:=EF h t x
  rw [vE h] at hr
  have b:s=_:=(congrArg (λ q=>q.1) hr).symm
  have c:g=_:=(congrArg (λ q=>q.2.1) hr).symm
  have f:d=_:=(congrArg (λ q=>q.2.2.1) hr).symm
  have i:r=_:=(congrArg (λ q=>q.2.2.2.2) hr).symm
  rw [b,c,f,i]
  exact a
theorem BH {m:List aM} (h:jy m) {t:Nat} {g d:List Nat} {r:aW} (hr:iD (aW.mk (F2 m)) t=(g,d,r)):
    (∀ q ∈ r.ai.ls,q.au≠t/\∃ s ∈ m,s.au=q.au)/\q7 g+q7 d+Wt r.ai.ls<=Wt m:=by
  unfold iD at hr
  rw [bK,bK,qH h.up,rW] at hr
  have a:g=_:=(congrArg (λ q=>q.1) hr).symm
  have b:d=_:=(congrArg (λ q=>q.2.1) hr).symm
  have c:r=_:=(congrArg (λ q=>q.2.2) hr).symm
  have hf:Fit (but t m):=h.fit.filter _
  rw [a,b,c]
  refine⟨zM (S:=λ n=>n≠t/\∃ s ∈ m,s.au=n) hf (λ r hr=> ?_) _ _, ?_⟩
  . have:=P0.1 hr
    exact⟨of_decide_eq_true this.2,r,this.1,rfl⟩
  . have e:=yN hf [] []
    have f:Wt (but t m)<=Wt m:=lV _ _
    show q7 (rq (dz (Wt (but t m)+1) (but t m) [] []).2.1)+q7 (rq (dz (Wt (but t m)+1) (but t m) [] []).2.2)+Wt (dz (Wt (but t m)+1) (but t m) [] []).1<=_
    rw [zu,zu]
    simp only [K1] at e
    omega
structure Tk (ws:List bB) (hs:List dA) (rs:List aM):Prop where
  wu:r9 ws
  hu:vT hs
  dj:∀ w ∈ ws, ∀ h ∈ hs,w.au≠h.aU
  n:q7 ws+q7 hs<=6
  gr:∀ w ∈ ws,(0<=w.aS/\w.aS<=((q7 w.bJ.ls:Nat):Int))/\q7 w.cz.ls<=24/\q7 w.bJ.ls<=24
  ho:∀ h ∈ hs,q7 h.aK.ls<=24
  snd:jy rs
  uT:∀ r ∈ rs,(∃ w ∈ ws,w.au=r.au)\/(∃ h ∈ hs,h.aU=r.au)
theorem Tk.wat {ws:List bB} {hs:List dA} {rs:List aM} {i:Nat} {x:bB} (h:Tk ws hs rs) (hx:ws[i]? =some x):(0<=x.aS/\x.aS<=((q7 x.bJ.ls:Nat):Int))/\q7 x.cz.ls<=24/\q7 x.bJ.ls<=24:=h.gr x (D4 hx)
theorem Ku {ws:List bB} {hs:List dA} {rs:List aM} {i:Nat} {x:dA} (h:Tk ws hs rs) (hx:hs[i]? =some x):q7 x.aK.ls<=24:=h.ho x (D4 hx)
theorem Tk.hops {ws:List bB} {hs:List dA} {rs:List aM} (h:Tk ws hs rs):∀ x ∈ hs,q7 x.aK.ls<=1000000:=λ x hx=>Nat.le_trans (h.ho x hx) f5
theorem Tk.rows {ws:List bB} {hs:List dA} {rs:List aM} (h:Tk ws hs rs):q7 rs<=6:=by
  have a:=Bh (rs.map λ r=>r.au) (ws.map (λ w=>w.au)++hs.map λ x=>x.aU) (S3.2 (h.snd.up.imp λ e=>Nat.ne_of_lt e)) λ x hx=>by
    obtain⟨r,hr,rfl⟩:=S4.1 hx
    rcases h.uT r hr with ⟨w,hw,e⟩ | ⟨y,hy,e⟩
    . exact List.mem_append_left _ (S4.2 ⟨w,hw,e⟩)
    . exact List.mem_append_right _ (S4.2 ⟨y,hy,e⟩)
  have:=h.n
  simp only [r7,o0] at a
  omega
def vV (ws:List bB) (i k:Nat):Prop:=∃ x,ws[i]? =some x/\x.au=k
def gm (ws:List bB) (i:Nat):Nat:=match ws[i]? with
  | some x=>G0 ((q7 x.bJ.ls:Int) - x.aS)
  | none=>0
theorem Af {ws:List bB} {i:Nat} {x:bB} (hx:ws[i]? =some x):gm ws i=G0 ((q7 x.bJ.ls:Int) - x.aS):=by unfold gm; rw [hx]
theorem EW {ws:List bB} {hs:List dA} {rs:List aM} (h:Tk ws hs rs) (i:Nat):gm ws i<=24:=by
  unfold gm
  cases hx:ws[i]? with
  | none=>exact Lm _
  | some x=>have:=h.wat hx; show G0 _<=24; omega
theorem at_set {α:Type} {l:List α} {i:Nat} {x y:α} (hx:l[i]? =some x):(L6 l i y)[i]? =some y:=by
  have:=(p4.1 hx).1
  rw [List.getElem?_set_self this]
theorem Bi {ws:List bB} {i:Nat} {x y:bB} (hx:ws[i]? =some x) (hg:x.aS < (q7 x.bJ.ls:Int)) (hl:y.bJ=x.bJ) (hy:y.aS=x.aS+1):gm (L6 ws i y) i+1=gm ws i:=by
  rw [Af (at_set hx),Af hx,hl,hy]
  omega
theorem vV.set {ws:List bB} {i k:Nat} {x y:bB} (h:vV ws i k) (hx:ws[i]? =some x) (ht:y.au=x.au):vV (L6 ws i y) i k:=by
  obtain⟨z,hz,e⟩:=h
  rw [hx] at hz; cases hz
  exact⟨y,at_set hx,by rw [ht]; exact e⟩
theorem xh {ws:List bB} {i:Nat} {x y:bB} (hx:ws[i]? =some x) (ht:y.au=x.au):s1 (λ w:bB=>w.au) (L6 ws i y)=s1 (λ w:bB=>w.au) ws:=by
  rw [List.map_set,ht]
  obtain⟨a,rfl⟩:=p4.1 hx
  refine List.ext_getElem? λ j=> ?_
  rw [List.getElem?_set]
  by_cases e:i=j
  . subst e; rw [if_pos rfl,if_pos (by rw [r7]; exact a),List.getElem?_map,hx]; rfl
  . rw [if_neg e]
theorem Cs {l:List bB}:r9 l↔(s1 (λ w:bB=>w.au) l).Pairwise (· < ·):=S3.symm
theorem yO {l:List bB} {n:Nat}:(∃ w ∈ l,w.au=n)↔n ∈ s1 (λ w:bB=>w.au) l:=S4.symm
theorem Tk.bump {ws:List bB} {hs:List dA} {rs:List aM} {i:Nat} {x y:bB} (h:Tk ws hs rs) (hx:ws[i]? =some x) (ht:y.au=x.au) (ho:y.cz=x.cz) (hl:y.bJ=x.bJ) (hg:0<=y.aS/\y.aS<=((q7 y.bJ.ls:Nat):Int)):Tk (L6 ws i y) hs rs where
  wu:=by rw [Cs,xh hx ht, <- Cs]; exact h.wu
  hu:=h.hu
  dj:=λ w hw z hz=>by
    have a:w.au ∈ s1 (λ w:bB=>w.au) ws:=by rw [<- xh hx ht]; exact S4.2 ⟨w,hw,rfl⟩
    obtain⟨v,hv,e⟩:=S4.1 a
    rw [<- e]; exact h.dj v hv z hz
  n:=by rw [List.length_set]; exact h.n
  gr:=λ w hw=>by
    rcases S5 hw with a | a
    . exact h.gr w a
    . rw [a]; refine⟨hg, ?_⟩; rw [ho,hl]; exact(h.wat hx).2
  ho:=h.ho
  snd:=h.snd
  uT:=λ r hr=>by
    rw [yO,xh hx ht, <- yO]; exact h.uT r hr
theorem Tk.ask {ws:List bB} {hs:List dA} {rs:List aM} {i k:Nat} (h:Tk ws hs rs) (hw:vV ws i k) {x:aF} {s e:Int} {g d:List Nat} {r:aW} (hr:iT (aW.mk (F2 rs)) k x=(s,g,d,e,r)):Tk ws hs r.ai.ls where
  wu:=h.wu
  hu:=h.hu
  dj:=h.dj
  n:=h.n
  gr:=h.gr
  ho:=h.ho
  snd:=DU h.snd hr
  uT:=λ q hq=>by
    rcases (zA h.snd hr).1 q hq with e | ⟨z,hz,e⟩
    . obtain⟨y,hy,a⟩:=hw
      exact .inl ⟨y,D4 hy,by rw [a,e]⟩
    . rw [<- e]; exact h.uT z hz
theorem pG {m:ax} (hs:r9 m.ag.ls) {k:Nat} {i:Int} (hf:bX m k=(i,true)):vV m.ag.ls (G0 i) k:=by
  have e:bX m k=bF m.ag.ls k:=rfl
  rw [e] at hf
  rcases si hs k with ⟨a,p,q,b,hp,ha,hq,h⟩ | ⟨a,q,b,ha,hq,h⟩
  . rw [h] at hf
    have c:i=(a.length:Int):=(congrArg Prod.fst hf).symm
    refine⟨p, ?_,hp⟩
    rw [b,c,Int.toNat_natCast]; simp
  . rw [h] at hf
    exact Bool.noConfusion (show false=true from congrArg Prod.snd hf)
theorem su {m:ax} (hs:r9 m.ag.ls) {k:Nat} {i:Nat} (hw:vV m.ag.ls i k):bX m k=((i:Int),true):=by
  obtain⟨x,hx,f⟩:=hw
  have e:bX m k=bF m.ag.ls k:=rfl
  rw [e]
  rcases si hs k with ⟨a,p,q,c,hp,ha,hq,h⟩ | ⟨a,q,c,ha,hq,h⟩
  . rw [h]
    have d:m.ag.ls[a.length]? =some p:=by rw [c]; simp
    rcases Nat.lt_trichotomy i a.length with b | b | b
    . have:=yM hs hx d b; omega
    . rw [b]
    . have:=yM hs d hx b; omega
  . exfalso
    rw [c] at hx
    have hm:=D4 hx
    rcases S1.1 hm with b | b
    . have:=ha x b; omega
    . have:=hq x b; omega
def Gt (ws:List bB):Prop:=∀ w ∈ ws,w.aS < ((q7 w.bJ.ls:Nat):Int)
def Gx (k:Nat) (ws:List bB):Prop:=∀ w ∈ ws,w.au≠k->w.aS < ((q7 w.bJ.ls:Nat):Int)
theorem Gt.wat {ws:List bB} {i:Nat} {x:bB} (h:Gt ws) (hx:ws[i]? =some x):x.aS < ((q7 x.bJ.ls:Nat):Int):=h x (D4 hx)
theorem Gt.gx {ws:List bB} (h:Gt ws) (k:Nat):Gx k ws:=λ w hw _=>h w hw
theorem Gx.set {ws:List bB} {i k:Nat} {y:bB} (h:Gx k ws) (hy:y.au=k):Gx k (L6 ws i y):=λ w hw hn=>by
  rcases S5 hw with e | e
  . exact h w e hn
  . rw [e] at hn; exact absurd hy hn
open List renaming length_drop->m9,length_replicate->N2,length_set->L7,mem_flatMap->O3
open _root_.Go.Proofs.Tryz renaming isAgg3->B3,sizeOf60->E0
section
open Go.RowKit
def ic (h:bI) (n:Nat) (c:ax) (i:StoreT) (k:Int):Nat->List dB->List aM->List bB->((List dB) × (List aM) × (List bB) × bB) ⊕ (Int × bI × ax × aW)
  | 0,j,l,f=>Sum.inl default
  | o+1,j,l,f=>bnd (List.getD f (G0 k) default) λ b=>if b.aS < (b.bJ.ls.length:Int) then bnd (List.getD b.bJ.ls (G0 b.aS) default) λ m=>bnd (iT (aW.mk (F2 l)) n m) λ a=>if a.2.2.2.1=0 then bnd (lm (bI.mk h.av (F2 j)) a.2.1 a.2.2.1) λ d=>if a.1=2 then Sum.inr (0,bI.mk h.av (F2 d.bE.ls),ax.mk c.aa (F2 f),a.2.2.2.2) else if a.1=3 then bnd (jg (bI.mk h.av (F2 d.bE.ls)) n (ax.mk c.aa (F2 f))) λ e=>bnd (fo (bI.mk (dH.mk (F2 e.1.av.bD.ls) (F2 h.av.aL.ls) h.av.bU) (F2 d.bE.ls)) n (ax.mk c.aa (F2 e.2.ag.ls)) a.2.2.2.2) λ g=>Sum.inr (0,bI.mk (dH.mk (F2 e.1.av.bD.ls) (F2 h.av.aL.ls) h.av.bU) (F2 g.1.bE.ls),ax.mk c.aa (F2 e.2.ag.ls),g.2) else ic h n c i k o d.bE.ls a.2.2.2.2.ai.ls (L6 f (G0 k) (bB.mk b.au (F2 b.cz.ls) (F2 b.bJ.ls) (b.aS+1))) else Sum.inr (a.2.2.2.1,bI.mk h.av (F2 j),ax.mk c.aa (F2 f),a.2.2.2.2) else Sum.inl (j,l,f,b)
def fH (g:bI) (h:Nat) (a:ax) (d:StoreT) (e:aW):Int × bI × ax × aW:=
 bnd (bX a h) λ b=>if b.2=true then lp (ic g h a d b.1 ((gm a.ag.ls (G0 b.1))+1) g.bE.ls e.ai.ls a.ag.ls) λ sLrbtbL=>bnd (d9 (ax.mk a.aa (F2 (t6 (G0 b.1) sLrbtbL.2.2.1++s0 ((G0 b.1)+1) sLrbtbL.2.2.1))) sLrbtbL.2.2.2.au) λ c=>bnd (ib (bI.mk g.av (F2 sLrbtbL.1)) (dA.mk sLrbtbL.2.2.2.au (F2 sLrbtbL.2.2.2.cz.ls)) (ax.mk (bA.mk a.aa.bC a.aa.aQ a.aa.bq a.aa.aJ a.aa.aD (F2 a.aa.ah.ls) (F2 (t6 (G0 c.1) a.aa.ak.ls++((dA.mk sLrbtbL.2.2.2.au (F2 sLrbtbL.2.2.2.cz.ls))::s0 (G0 c.1) a.aa.ak.ls))) (F2 a.aa.af.ls) a.aa.bi a.aa.aI a.aa.aH a.aa.aC) (F2 (t6 (G0 b.1) sLrbtbL.2.2.1++s0 ((G0 b.1)+1) sLrbtbL.2.2.1))) d) λ f=>(f.1,bI.mk (dH.mk (F2 f.2.av.bD.ls) (F2 g.av.aL.ls) g.av.bU) (F2 sLrbtbL.1),ax.mk (bA.mk a.aa.bC a.aa.aQ a.aa.bq a.aa.aJ a.aa.aD (F2 a.aa.ah.ls) (F2 (t6 (G0 c.1) a.aa.ak.ls++((dA.mk sLrbtbL.2.2.2.au (F2 sLrbtbL.2.2.2.cz.ls))::s0 (G0 c.1) a.aa.ak.ls))) (F2 a.aa.af.ls) a.aa.bi a.aa.aI a.aa.aH a.aa.aC) (F2 (t6 (G0 b.1) sLrbtbL.2.2.1++s0 ((G0 b.1)+1) sLrbtbL.2.2.1)),aW.mk (F2 sLrbtbL.2.1)) else(0,g,a,e)
theorem qc (w D g0) (M:bI) (O P Q W V dn dw p1 u) (a:ax) (G I s h j J K d l aa B) (C:StoreT) (F E x) (N:aW) (ak au X r0) (r1:bI) (r2:ax) (r3:aW) (H:Own w D w [blk g0 [.pointer (some ⟨u,0,none⟩), .slice O M.av.bD.ls.length P, .slice W M.av.aL.ls.length V, .bool M.av.bU, .slice dn M.bE.ls.length dw] 92,row O M.av.bD.ls.length P (q2 bV.cells Q) 47 21,sepL (q2 IR Q),jv dn M.bE.ls.length dw (q2 dB.cells M.bE.ls) 216 2,blk u (kB a G a.aa.ah.ls.length I s a.aa.ak.ls.length h J a.aa.af.ls.length K a.aa.bi B d a.ag.ls.length l x) 80,row s a.aa.ak.ls.length h (q2 bf.cells j) 60 2,sepL (q2 IK j),row d a.ag.ls.length l (q2 aP.cells aa) 99 4,sepL (q2 IA aa),blk B [.slice F C.xM.ls.length E] 27,blk x [.slice ak N.ai.ls.length au] 114,row ak N.ai.ls.length au (q2 ay.cells X) 164 6,sepL (q2 Iy X)]) (aH:s1 bV.abs Q=M.av.bD.ls) (iA:Ro w D λ w'=>bO w' 6 W M.av.aL.ls.length (q2 aX.cells M.av.aL.ls)) (lc:M.av.aL.ls.length<=V/\M.av.aL.ls.length<=9223372036854775807) (R:s1 bf.abs j=a.aa.ak.ls) (ai:s1 aP.abs aa=a.ag.ls) (bZ:Ro w D λ w'=>bO w' 2 F C.xM.ls.length (q2 az.cells C.xM.ls)) (iB:C.xM.ls.length<=E/\C.xM.ls.length<=9223372036854775807) (aC:s1 ay.abs X=N.ai.ls) (oG:Tk a.ag.ls a.aa.ak.ls N.ai.ls) (oH:a.ag.ls.length+a.aa.ak.ls.length<=6) (oI:N.ai.ls.length<=6) (oJ:M.av.bD.ls.length<=90000/\M.bE.ls.length<=90000/\M.av.aL.ls.length<=1000/\C.xM.ls.length<=4000) (hr:fH M p1 a C N=(r0,r1,r2,r3)):
    Calls Tryz.prog 83 #[vP g0 0,vU p1] w (dI λ v w'=> ∃ dQ dR cz dS dU dV dW cB dX dY cK dZ ed cO,v=vI r0/\Own w D w' [blk g0 [vP u 0, .slice dQ r1.av.bD.ls.length dR, .slice W M.av.aL.ls.length V, .bool M.av.bU, .slice dS r1.bE.ls.length dU] 92,row dQ r1.av.bD.ls.length dR (q2 bV.cells cz) 47 21,sepL (q2 IR cz),jv dS r1.bE.ls.length dU (q2 dB.cells r1.bE.ls) 216 2,blk u (kB a G a.aa.ah.ls.length I dV r2.aa.ak.ls.length dW J a.aa.af.ls.length K a.aa.bi B dX r2.ag.ls.length dY x) 80,row dV r2.aa.ak.ls.length dW (q2 bf.cells cB) 60 2,sepL (q2 IK cB),row dX r2.ag.ls.length dY (q2 aP.cells cK) 99 4,sepL (q2 IA cK),blk B [.slice F C.xM.ls.length E] 27,blk x [.slice dZ r3.ai.ls.length ed] 114,row dZ r3.ai.ls.length ed (q2 ay.cells cO) 164 6,sepL (q2 Iy cO)]/\(s1 bV.abs cz=r1.av.bD.ls)/\(s1 bf.abs cB=r2.aa.ak.ls)/\(s1 aP.abs cK=r2.ag.ls)/\(s1 ay.abs cO=r3.ai.ls)):=by
 have kZ:=aY aH
 have jr:=aY R
 have jw:=aY ai
 have gG:=aY aC
 have lg:=zr 1 H
 have lh:=H.rowCQ (i:=3) rfl
 have jB:=zr 5 H
 have jC:=zr 7 H
 refine cb Tryz.func83 ?_
 refine sr (Ar rfl (Mz rfl (Kz (vP g0 0) (Kz (vP g0 0) (Lz (vP u 0) H 0 Q8 (Mz rfl ?_))))))
 have gD:=H.pf [4]
 have mP:=zr 7 gD
 obtain⟨⟨g,cZ⟩,aK⟩:∃ q:Int × Bool,bX a p1=q:=⟨_,rfl⟩
 obtain⟨oK,jD,mQ,jE,ek⟩:=IE gD
 refine cl Tryz.call79 (je _ _ u a G I s h J K d l aa B x p1 g cZ jD ai (ek _ 6 _ rfl bP) e8 (λ x9 h9=>⟨ek _ 7 _ rfl (bL (O3.2 ⟨x9,h9,b3⟩) bP),dC (φ:=λ _=>_) gD (i:=8) rfl (bL (O3.2 ⟨x9,h9,b3⟩) dK),ek _ 7 _ rfl (bL (O3.2 ⟨x9,h9, .tail _ b3⟩) bP),dC (φ:=λ _=>_) gD (i:=8) rfl (bL (O3.2 ⟨x9,h9, .tail _ b3⟩) dK)⟩) f0 aK) ?_
 rintro _ oL ⟨rfl,jG,gI,gJ⟩
 have bz:=jE _ _ jG
 replace gI:0<=g/\g<=(a.ag.ls.length:Int):=gI
 replace gJ:Bool.toNat cZ=0\/g < (a.ag.ls.length:Int):=gJ
 refine Mz rfl (Kz (vI g) (Kz (.bool cZ) (Az rfl (An rfl (H7 (sr (Mz rfl (Kz (.bool (!cZ)) (nt ?_)))))))))
 rcases Lr (cZ) with aN | aN
 have h36t:Bool.toNat cZ=1:=by rw [aN]; rfl
 refine jF (cn aN) (sk (sr (Mz rfl (Kz (vP g0 0) (Kz (vP g0 0) (Lz (vP u 0) bz 1 Q8 (Kz (vP u 0) (Kz (vP u 18) (Lz (.slice d a.ag.ls.length l) bz 0 Tryz.isAgg77 (fw (vJ (G0 g)) (Ig (e:=g) (Ie rfl) e8) ?_))))))))))
 obtain⟨aI,eu⟩:=dG (ls:=aa) (i:=G0 g) aP.len f5 (bz.rds (i:=7) rfl) f2
 have eB:=fO ai eu
 have mR:aI.cz.ls.length<=aI.cz.c/\aI.cz.ls.length<=9223372036854775807:=dC bz (i:=8) rfl (φ:=λ _=>_) (bL (O3.2 ⟨aI,D4 eu,b3⟩) dK)
 have mU:aI.bJ.ls.length<=aI.bJ.c/\aI.bJ.ls.length<=9223372036854775807:=dC bz (i:=8) rfl (φ:=λ _=>_) (bL (O3.2 ⟨aI,D4 eu, .tail _ b3⟩) dK)
 obtain⟨mV,mW,mZ⟩:(0<=aI.aS/\aI.aS<=(aI.bJ.ls.length:Int))/\aI.cz.ls.length<=24/\aI.bJ.ls.length<=24:=Tk.wat (ws:=a.ag.ls) f6 eB
 have ng:N.ai.ls.length<=6:=Tk.rows (ws:=a.ag.ls) (hs:=a.aa.ak.ls) f6
 have ni:a.ag.ls.length+a.aa.ak.ls.length<=6:=Tk.n (ws:=a.ag.ls) (rs:=N.ai.ls) f6
 refine fw (.pointer (some ⟨ab d,ao d+(G0 g) *4,none⟩)) (Im (lJ) rfl rfl ((bz.rds (i:=7) rfl).addr (i:=G0 g) e8) e8) (An rfl (H7 (bo ?_)))
 have ll:=bz.pb [8,4,11,12]
 obtain⟨lq,eD⟩:=G7 λ aO (aQ:Nat) Y df (dh:Nat) bC aG T p (eG:Nat) w'=>Own w D w' [blk u (kB a G a.aa.ah.ls.length I s a.aa.ak.ls.length h J a.aa.af.ls.length K a.aa.bi B d a.ag.ls.length l x) 80,blk g0 [vP u 0, .slice O M.av.bD.ls.length P, .slice W M.av.aL.ls.length V, .bool M.av.bU, .slice aO Y.length aQ] 92,row O M.av.bD.ls.length P (q2 bV.cells Q) 47 21,sepL (q2 IR Q),row s a.aa.ak.ls.length h (q2 bf.cells j) 60 2,sepL (q2 IK j),row d a.ag.ls.length l (q2 aP.cells T) 99 4,blk B [.slice F C.xM.ls.length E] 27,blk x [.slice df aG.length dh] 114,sepL (q2 IA T),jv aO Y.length aQ (q2 dB.cells Y) 216 2,row df aG.length dh (q2 ay.cells bC) 164 6,sepL (q2 Iy bC)]/\s1 aP.abs T=p/\p.length=a.ag.ls.length/\s1 ay.abs bC=aG/\Tk p a.aa.ak.ls aG/\vV p (G0 g) p1/\Y.length+24 *gm p (G0 g)<=91000/\gm p (G0 g) < eG/\ic M p1 a C g ((gm a.ag.ls (G0 g))+1) M.bE.ls N.ai.ls a.ag.ls=ic M p1 a C g eG Y aG p
 refine Wp.loop (λ i:(Option Addr) × Nat × (List dB) × (Option Addr) × Nat × (List ay) × (List aM) × (List aP) × (List bB) × Nat=> [(4,vI 0),(7, .pointer (some ⟨ab d,ao d+(G0 g) *4,none⟩)),(0,vP g0 0),(1,vU p1)]) lq (λ i=>i.2.2.2.2.2.2.2.2.2) (dn,dw,M.bE.ls,ak,au,X,N.ai.ls,aa,a.ag.ls,(gm a.ag.ls (G0 g))+1) ⟨rfl,rfl,rfl,rfl,trivial⟩ (eD.2 ⟨ll,by exact ai,by first | omega | (simp only [L7] <;> omega) | (simp only [N2]),by exact aC,by first | assumption | (refine Tk.bump ?_ eB rfl rfl rfl ?_; assumption; (dsimp only; omega)),by first | assumption | exact vV.set f6 eB rfl | exact pG (Tk.wu f6) (aK.trans (congrArg (λ q=>(_,q)) aN)),by first | omega | (have q9:=EW (by assumption:Tk a.ag.ls _ _) (G0 g); omega),e8,rfl⟩) ?_
 rintro ⟨aO,aQ,Y,df,dh,bC,aG,T,p,eG⟩ oM jH
 show Wp _ _ _ [(4,vI 0),(7, .pointer (some ⟨ab d,ao d+(G0 g) *4,none⟩)),(0,vP g0 0),(1,vU p1)] _ _
 obtain⟨lu,aj,nk,eO,nu,ny,nz,nA,bD⟩:=eD.1 jH
 have nC:=aY aj
 have nD:=aY eO
 obtain⟨iC,jI⟩:∃ q,eG=q+1:=⟨eG - 1,e8⟩
 subst jI
 refine H7 (H7 ?_)
 refine mJ 13 [] (Ik (Ik (Ik (bH.block (Ik Iw))))) lu ?_
 intro oN iD
 refine qv 0 rfl rfl (qk (.pointer (some ⟨ab d,ao d+(G0 g) *4,none⟩)) 1 rfl (qk (.pointer (some ⟨ab d,ao d+(G0 g) *4+3,none⟩)) 2 rfl ?_))
 obtain⟨b,Z⟩:=mY (ls:=T) (i:=G0 g) f2
 have av:=fO aj Z
 obtain⟨nE,nG,nH⟩:(0<=b.aS/\b.aS<=(b.bJ.ls.length:Int))/\b.cz.ls.length<=24/\b.bJ.ls.length<=24:=Tk.wat (ws:=p) f6 av
 have nI:aG.length<=6:=Tk.rows (ws:=p) (hs:=a.aa.ak.ls) f6
 have nJ:p.length+a.aa.ak.ls.length<=6:=Tk.n (ws:=p) (rs:=aG) f6
 refine qt (v:=vI b.aS) 3 rfl (λ _ ⟨_,H9⟩=>Il rfl (bQ.one B3 (((H9.rds (i:=6) rfl).elem aP.len Z f5).at_ (k:=3) rfl))) (qv 4 rfl rfl (qk (.pointer (some ⟨ab d,ao d+(G0 g) *4,none⟩)) 5 rfl (qk (.pointer (some ⟨ab d,ao d+(G0 g) *4+2,none⟩)) 6 rfl (qt (v:= .slice b.bJ.A b.bJ.ls.length b.bJ.c) 7 rfl (λ _ ⟨_,H9⟩=>Il rfl (bQ.one Tryz.isAgg97 (((H9.rds (i:=6) rfl).elem aP.len Z f5).at_ (k:=2) rfl))) (qk (vJ b.bJ.ls.length) 8 rfl (qk (.bool (decide (b.aS < (b.bJ.ls.length:Int)))) 9 rfl (qn (Ib ?_))))))))
 by_cases di:b.aS < (b.bJ.ls.length:Int)
 refine jT (dT di) (sk (bo (H7 ?_)))
 refine mJ 13 [18] (Ik (bH.block (Ik (bH.block (Ik Iw))))) iD ?_
 intro oO lv
 refine qv 0 rfl rfl (qp g0 0 1 rfl (qp g0 0 2 rfl (ql 3 rfl 1 Q8 rfl rfl rfl (qp u 0 4 rfl (qp u 19 5 rfl (ql 6 rfl 0 Tryz.isAgg75 rfl rfl rfl (qv 7 rfl rfl (qv 8 rfl rfl (qk (.pointer (some ⟨ab d,ao d+(G0 g) *4,none⟩)) 9 rfl (qk (.pointer (some ⟨ab d,ao d+(G0 g) *4+2,none⟩)) 10 rfl (qt (v:= .slice b.bJ.A b.bJ.ls.length b.bJ.c) 11 rfl (λ _ ⟨_,H9⟩=>Il rfl (bQ.one Tryz.isAgg97 (((H9.rds (i:=6) rfl).elem aP.len Z f5).at_ (k:=2) rfl))) (qv 12 rfl rfl (qk (.pointer (some ⟨ab d,ao d+(G0 g) *4,none⟩)) 13 rfl (qk (.pointer (some ⟨ab d,ao d+(G0 g) *4+3,none⟩)) 14 rfl (qt (v:=vI b.aS) 15 rfl (λ _ ⟨_,H9⟩=>Il rfl (bQ.one B3 (((H9.rds (i:=6) rfl).elem aP.len Z f5).at_ (k:=3) rfl))) ?_)))))))))))))))
 obtain⟨gF,bE⟩:=mY (ls:=b.bJ.ls) (i:=G0 b.aS) f2
 refine qt (v:= .pointer (some ⟨ab b.bJ.A,ao b.bJ.A+(G0 b.aS) *3,none⟩)) 16 rfl (λ _ ⟨_,H9⟩=>Im (uy) rfl (FQ (r:=b.aS) rfl e8) ((dC H9 (i:=9) rfl (bL (O3.2 ⟨b,D4 Z, .tail _ b3⟩) bP)).addr (i:=G0 b.aS) e8) e8) (qt (v:= .agg (aF.cells gF).toArray) 17 rfl (λ _ ⟨_,H9⟩=>Il rfl (Io (cs:=(aF.cells gF)) Tryz.isAgg118 Tryz.sizeOf118 ((dC H9 (i:=9) rfl (bL (O3.2 ⟨b,D4 Z, .tail _ b3⟩) bP)).elem aF.len bE f5))) ?_)
 have lC:=lv.pf [8,11,12]
 obtain⟨⟨bF,aR,aS,aL,U⟩,aJ⟩:∃ q:Int × (List Nat) × (List Nat) × Int × aW,iT (aW.mk (F2 aG)) p1 gF=q:=⟨_,rfl⟩
 obtain⟨oP,jK,nK,jL,nL⟩:=Jb lC
 refine qd 18 rfl (IB Tryz.call38 rfl (wR _ _ x (aW.mk (F2 aG)) df dh bC p1 gF bF aR aS aL U jK eO f9 (by first | assumption | exact jy.hd f6 | exact(Tk.snd f6).hd) (by first | assumption | exact Tk.snd f6) aJ) ?_)
 rintro _ jM ⟨bG,bJ,bK,bM,af,ag,ah,rfl,iE,aT,eQ⟩
 have bi:=jL _ _ iE
 have lD:=aY aT
 have lF:=zr 0 bi
 have lG:=zr 1 bi
 have lH:=zr 3 bi
 replace eQ:aR.length<=12/\aS.length<=12:=eQ
 have iF:Tk p a.aa.ak.ls U.ai.ls:=Tk.ask f6 f6 aJ
 have lI:U.ai.ls.length<=6:=Tk.rows iF
 refine⟨.inl e9, ?_⟩
 refine IP (v:= .tuple #[vI bF, .slice bG aR.length bJ, .slice bK aS.length bM,vI aL]) 19 rfl e9 (λ _=>Ie rfl) (IP (v:=vI bF) 20 rfl e9 (λ _=>yk) (IP (v:= .slice bG aR.length bJ) 21 rfl e9 (λ _=>yk) (IP (v:= .slice bK aS.length bM) 22 rfl e9 (λ _=>yk) (IP (v:=vI aL) 23 rfl e9 (λ _=>yk) (IP (v:=vI bF) 24 rfl e9 (λ _=>Jc rfl) (IP (v:= .slice bG aR.length bJ) 25 rfl e9 (λ _=>Jc rfl) (IP (v:= .slice bK aS.length bM) 26 rfl e9 (λ _=>Jc rfl) (IP (v:=vI aL) 27 rfl e9 (λ _=>Jc rfl) (qn (Ib (H7 (sr (Mz rfl (fw (.bool (decide (¬ (aL=0)))) (Iu (e:= !(decide (aL=0))) yk decide_not.symm) (nt ?_)))))))))))))))
 by_cases bn:aL=0
 refine jF (dF (Lp bn)) (sk (sr (Mz rfl (Mz rfl (Mz rfl ?_)))))
 have jN:=bi.pf [6,14]
 obtain⟨S,bv⟩:∃ q,lm (bI.mk M.av (F2 Y)) aR aS=q:=⟨_,rfl⟩
 obtain⟨nM,iH,lK,iI,eT⟩:=IX jN
 refine cl Tryz.call137 (rG _ _ g0 (bI.mk M.av (F2 Y)) O P W V aO aQ u bG aR.length bJ aR bK aS.length bM aS S iH (eT _ 0 _ rfl bP) rfl e8 (eT _ 1 _ rfl bP) rfl e8 f0 bv) ?_
 rintro _ gK ⟨aA,aB,rfl,iJ,eU⟩
 have gL:=iI _ _ iJ
 have lL:=gL.rowCQ (i:=1) rfl
 replace eU:S.bE.ls.length=Y.length+aR.length+aS.length:=eU
 have lM:gm (L6 p (G0 g) (bB.mk b.au (F2 b.cz.ls) (F2 b.bJ.ls) (b.aS+1))) (G0 g)+1=gm p (G0 g):=Bi (ws:=p) (y:=(bB.mk b.au (F2 b.cz.ls) (F2 b.bJ.ls) (b.aS+1))) av (show b.aS < (b.bJ.ls.length:Int) from by omega) rfl rfl
 refine nt (H7 (H7 ?_))
 have bq:=gL.px [] [2,3] []
 refine H8 (Mn rfl (bo (sr (Kz (.bool (decide (bF=2))) (An rfl ?_)))))
 by_cases bS:bF=2
 refine jT (dT bS) (sr (An rfl (rt (bR (tR (bR (tR (bR (tR (rs ?_))))))))))
 have aU:a.ag.ls.length=p.length:=by first | omega | (simp only [L7]; done) | (simp only [L7,o0,r5,K1,m8,m9,N2]; omega)
 have jO:Own w D gK [blk g0 [vP u 0, .slice O M.av.bD.ls.length P, .slice W M.av.aL.ls.length V, .bool M.av.bU, .slice aA S.bE.ls.length aB] 92,jv aA S.bE.ls.length aB (q2 dB.cells S.bE.ls) 216 2,blk x [.slice af U.ai.ls.length ag] 114,row af U.ai.ls.length ag (q2 ay.cells ah) 164 6,sepL (q2 Iy ah),blk u (kB a G a.aa.ah.ls.length I s a.aa.ak.ls.length h J a.aa.af.ls.length K a.aa.bi B d p.length l x) 80,row O M.av.bD.ls.length P (q2 bV.cells Q) 47 21,sepL (q2 IR Q),row s a.aa.ak.ls.length h (q2 bf.cells j) 60 2,sepL (q2 IK j),row d p.length l (q2 aP.cells T) 99 4,blk B [.slice F C.xM.ls.length E] 27,sepL (q2 IA T)]:=by first | (rw [<- aU]; exact bq) | (have q9:=bq; rw [aU] at q9; exact q9)
 have jP:=jO.px [0,6,7] [] [11,2,3,4]
 obtain⟨rfl,rfl,rfl,rfl⟩:=gH (zj hr (show _=(0,bI.mk M.av (F2 S.bE.ls),ax.mk a.aa (F2 p),U) from et (ae aK) (et (ip aN) (iG (et (bD) (et (ae (bu av)) (et (ip di) (et (ae (bu bE)) (et (ae aJ) (et (ip bn) (et (ae bv) (ip bS))))))))))))
 exact⟨O,P,Q,aA,aB,s,h,j,d,l,T,af,ag,ah,(by first | rfl | (rw [<- aU]; done) | (rw [<- aU]; rfl) | (rw [aU]; first | done | rfl)),jP,aH,R,aj,aT⟩
 refine jF (dF bS) (sr (Kz (.bool (decide (bF=3))) (An rfl ?_)))
 by_cases dx:bF=3
 refine jT (dT dx) (sr (Mz rfl (Mz rfl ?_)))
 have aV:a.ag.ls.length=p.length:=by first | omega | (simp only [L7]; done) | (simp only [L7,o0,r5,K1,m8,m9,N2]; omega)
 have jQ:Own w D gK [blk g0 [vP u 0, .slice O M.av.bD.ls.length P, .slice W M.av.aL.ls.length V, .bool M.av.bU, .slice aA S.bE.ls.length aB] 92,jv aA S.bE.ls.length aB (q2 dB.cells S.bE.ls) 216 2,blk x [.slice af U.ai.ls.length ag] 114,row af U.ai.ls.length ag (q2 ay.cells ah) 164 6,sepL (q2 Iy ah),blk u (kB a G a.aa.ah.ls.length I s a.aa.ak.ls.length h J a.aa.af.ls.length K a.aa.bi B d p.length l x) 80,row O M.av.bD.ls.length P (q2 bV.cells Q) 47 21,sepL (q2 IR Q),row s a.aa.ak.ls.length h (q2 bf.cells j) 60 2,sepL (q2 IK j),row d p.length l (q2 aP.cells T) 99 4,blk B [.slice F C.xM.ls.length E] 27,sepL (q2 IA T)]:=by first | (rw [<- aV]; exact bq) | (have q9:=bq; rw [aV] at q9; exact q9)
 have jR:=jQ.pf [0,6,7,5,10,12]
 obtain⟨⟨bT,dz⟩,eX⟩:∃ q:bI × ax,jg (bI.mk M.av (F2 S.bE.ls)) p1 (ax.mk a.aa (F2 p))=q:=⟨_,rfl⟩
 obtain⟨nN,iK,lQ,iL,lS⟩:=Je jR
 refine cl Tryz.call138 (ui _ _ g0 (bI.mk M.av (F2 S.bE.ls)) O P Q W V aA aB p1 u (ax.mk a.aa (F2 p)) G I s h J K d l T B x bT dz iK aH aj f0 eX) ?_
 rintro _ nO ⟨gM,gN,jS,gP,gQ,jU,rfl,iM,eY,eZ,fe⟩
 have fq:=iL _ _ iM
 have lT:=aY eY
 have lV:=aY eZ
 have lW:=zr 1 fq
 have lX:=zr 4 fq
 replace fe:bT.av.bD.ls.length=M.av.bD.ls.length+1:=fe
 refine ns (Mz rfl (Mz rfl ?_))
 have jV:=fq.pf [0,6,3,7,8,9]
 obtain⟨⟨fu,gT⟩,fA⟩:∃ q:bI × aW,fo (bI.mk (dH.mk (F2 bT.av.bD.ls) (F2 M.av.aL.ls) M.av.bU) (F2 S.bE.ls)) p1 (ax.mk a.aa (F2 dz.ag.ls)) U=q:=⟨_,rfl⟩
 obtain⟨nP,iO,lY,iP,lZ⟩:=Je jV
 refine cl Tryz.call89 (oF _ _ g0 (bI.mk (dH.mk (F2 bT.av.bD.ls) (F2 M.av.aL.ls) M.av.bU) (F2 S.bE.ls)) gM gN W V aA aB p1 u (ax.mk a.aa (F2 dz.ag.ls)) G I s h J K gP gQ B x U af ag ah fu gT iO aT f0 (by first | assumption | exact Tk.snd f6) fA) ?_
 rintro _ nQ ⟨jW,jX,jY,jZ,j3,rfl,iQ,fC,fD⟩
 have fE:=iP _ _ iQ
 have l5:=aY fC
 have l6:=fE.rowCQ (i:=1) rfl
 have l7:=zr 4 fE
 replace fD:fu.bE.ls.length<=S.bE.ls.length+24:=fD
 refine ns (An rfl (rt (bR (tR (bR (tR (bR (tR (rs ?_)))))))))
 have j4:=fE.px [0,6,7] [] [8,9,12,3,4,5]
 obtain⟨rfl,rfl,rfl,rfl⟩:=gH (zj hr (show _=(0,bI.mk (dH.mk (F2 bT.av.bD.ls) (F2 M.av.aL.ls) M.av.bU) (F2 fu.bE.ls),ax.mk a.aa (F2 dz.ag.ls),gT) from et (ae aK) (et (ip aN) (iG (et (bD) (et (ae (bu av)) (et (ip di) (et (ae (bu bE)) (et (ae aJ) (et (ip bn) (et (ae bv) (et (iN bS) (et (ip dx) (et (ae eX) (ae fA)))))))))))))))
 exact⟨gM,gN,jS,jW,jX,s,h,j,gP,gQ,jU,jY,jZ,j3,(by first | rfl | (rw [<- aV]; done) | (rw [<- aV]; rfl) | (rw [aV]; first | done | rfl)),j4,eY,R,eZ,fC⟩
 refine jF (dF dx) (IG (bN (Ib (H8 (Mz rfl (Kz (.pointer (some ⟨ab d,ao d+(G0 g) *4,none⟩)) (Kz (.pointer (some ⟨ab d,ao d+(G0 g) *4+3,none⟩)) (fw (vI b.aS) (Il rfl (bQ.one B3 (((bq.rds (i:=10) rfl).elem aP.len Z f5).at_ (k:=3) rfl))) (fw (vI (b.aS+1)) (Ig (e:=IntKind.i64.wrap (b.aS+1)) yk i5) (Kz (.pointer (some ⟨ab d,ao d+(G0 g) *4,none⟩)) (Kz (.pointer (some ⟨ab d,ao d+(G0 g) *4+3,none⟩)) ?_)))))))))))
 have j5:=bq.pf [10]
 refine I5 (Do.storeRow (vs:= [vI (b.aS+1)]) (o:=(G0 g) *4+3) (q:=ao d+(G0 g) *4+3) j5 rfl e8 rfl Tryz.sizeOf3 rfl rfl (Lh rfl) (jA aP.len Z (Lh rfl)) (j6 (y:=(aP.mk b.au b.cz b.bJ (b.aS+1))) aP.len rfl (Lh rfl) Z) ?_)
 intro kg ko
 have kr:Own w D kg [row d a.ag.ls.length l (q2 aP.cells (L6 T (G0 g) (aP.mk b.au b.cz b.bJ (b.aS+1)))) 99 4,blk g0 [vP u 0, .slice O M.av.bD.ls.length P, .slice W M.av.aL.ls.length V, .bool M.av.bU, .slice aA S.bE.ls.length aB] 92,jv aA S.bE.ls.length aB (q2 dB.cells S.bE.ls) 216 2,blk x [.slice af U.ai.ls.length ag] 114,row af U.ai.ls.length ag (q2 ay.cells ah) 164 6,sepL (q2 Iy ah),blk u (kB a G a.aa.ah.ls.length I s a.aa.ak.ls.length h J a.aa.af.ls.length K a.aa.bi B d a.ag.ls.length l x) 80,row O M.av.bD.ls.length P (q2 bV.cells Q) 47 21,sepL (q2 IR Q),row s a.aa.ak.ls.length h (q2 bf.cells j) 60 2,sepL (q2 IK j),blk B [.slice F C.xM.ls.length E] 27,sepL (q2 IA (L6 T (G0 g) (aP.mk b.au b.cz b.bJ (b.aS+1))))]:=by rw [lU (f:=IA) (y:=(aP.mk b.au b.cz b.bJ (b.aS+1))) Z rfl]; exact ko
 have l8:q7 (L6 T (G0 g) (aP.mk b.au b.cz b.bJ (b.aS+1)))=q7 (L6 p (G0 g) (bB.mk b.au (F2 b.cz.ls) (F2 b.bJ.ls) (b.aS+1))):=aY (eH aj rfl)
 have l9:q7 (L6 p (G0 g) (bB.mk b.au (F2 b.cz.ls) (F2 b.bJ.ls) (b.aS+1)))=p.length:=L7
 refine WL.nil (bN ?_)
 have ku:=kr.px [6] [] [0,11,3,12,2,4,5]
 exact Iq (aA,aB,S.bE.ls,af,ag,ah,U.ai.ls,(L6 T (G0 g) (aP.mk b.au b.cz b.bJ (b.aS+1))),(L6 p (G0 g) (bB.mk b.au (F2 b.cz.ls) (F2 b.bJ.ls) (b.aS+1))),iC) ⟨rfl,rfl,rfl,rfl,trivial⟩ (eD.2 ⟨ku,by exact(eH aj rfl),by first | omega | (simp only [L7] <;> omega) | (simp only [N2]),by exact aT,by first | assumption | (refine Tk.bump ?_ av rfl rfl rfl ?_; assumption; (dsimp only; omega)),by first | assumption | exact vV.set f6 av rfl | exact pG (Tk.wu f6) (aK.trans (congrArg (λ q=>(_,q)) aN)),by first | omega | (have q9:=EW (by assumption:Tk a.ag.ls _ _) (G0 g); omega),e8,Eq.trans (bD) (Eq.trans (ae (bu av)) (Eq.trans (if_pos di) (Eq.trans (ae (bu bE)) (Eq.trans (ae aJ) (Eq.trans (if_pos bn) (Eq.trans (ae bv) (Eq.trans (if_neg bS) (if_neg dx))))))))⟩) (by show iC < iC+1; omega)
 refine jT (dT bn) (sr (Mz rfl (An rfl (rt (tR (bR (tR (bR (tR (rs ?_))))))))))
 have aZ:a.ag.ls.length=p.length:=by first | omega | (simp only [L7]; done) | (simp only [L7,o0,r5,K1,m8,m9,N2]; omega)
 have kv:Own w D jM [row bG aR.length bJ (q2 (eN .u64) aR) 32 1,row bK aS.length bM (q2 (eN .u64) aS) 32 1,blk x [.slice af U.ai.ls.length ag] 114,row af U.ai.ls.length ag (q2 ay.cells ah) 164 6,sepL (q2 Iy ah),blk u (kB a G a.aa.ah.ls.length I s a.aa.ak.ls.length h J a.aa.af.ls.length K a.aa.bi B d p.length l x) 80,blk g0 [vP u 0, .slice O M.av.bD.ls.length P, .slice W M.av.aL.ls.length V, .bool M.av.bU, .slice aO Y.length aQ] 92,row O M.av.bD.ls.length P (q2 bV.cells Q) 47 21,sepL (q2 IR Q),row s a.aa.ak.ls.length h (q2 bf.cells j) 60 2,sepL (q2 IK j),row d p.length l (q2 aP.cells T) 99 4,blk B [.slice F C.xM.ls.length E] 27,sepL (q2 IA T),jv aO Y.length aQ (q2 dB.cells Y) 216 2]:=by first | (rw [<- aZ]; exact bi) | (have q9:=bi; rw [aZ] at q9; exact q9)
 have kw:=kv.px [6,7,8,14] [0,1] [12,2,3,4]
 obtain⟨rfl,rfl,rfl,rfl⟩:=gH (zj hr (show _=(aL,bI.mk M.av (F2 Y),ax.mk a.aa (F2 p),U) from et (ae aK) (et (ip aN) (iG (et (bD) (et (ae (bu av)) (et (ip di) (et (ae (bu bE)) (et (ae aJ) (iN bn))))))))))
 exact⟨O,P,Q,aO,aQ,s,h,j,d,l,T,af,ag,ah,(by first | rfl | (rw [<- aZ]; done) | (rw [<- aZ]; rfl) | (rw [aZ]; first | done | rfl)),kw,aH,R,aj,aT⟩
 refine jF (dF di) (Wp.exit (Ip ?_))
 have iR:ic M p1 a C g ((gm a.ag.ls (G0 g))+1) M.bE.ls N.ai.ls a.ag.ls=Sum.inl (Y,aG,p,(aP.abs b)):=et (bD) (et (ae (bu av)) (iN di))
 refine Ip (Iz (Ib (sr (Mz rfl (Mz rfl (Kz (.pointer (some ⟨ab d,ao d+(G0 g) *4,none⟩)) (fw (.agg (aP.cells b).toArray) (Il rfl (Io (cs:=(aP.cells b)) Tryz.isAgg99 Tryz.sizeOf99 ((iD.rds (i:=6) rfl).elem aP.len Z f5))) ?_)))))))
 refine WL.do rfl (IB Tryz.call139 rfl ?_ (λ _ _ k=>k))
 refine cb Tryz.func139 ?_
 refine sr ?_
 refine bW (aP.cells b) 99 iD ?_
 intro bU nR ky
 refine An rfl (H7 ?_)
 have kz:=ky.pb [1,5,6,7,10]
 refine mJ 9 [] (Ik Iw) kz ?_
 intro kC gU
 refine qv 0 rfl rfl (qp g0 0 1 rfl (qp g0 0 2 rfl (ql 3 rfl 1 Q8 rfl rfl rfl (qp bU 0 4 rfl (ql 5 rfl 0 E1 rfl rfl rfl ?_)))))
 refine GX.do 6 rfl e9 (IB Tryz.call87 rfl ?_ (λ _ _ k=>k))
 refine cb Tryz.func87 ?_
 refine sr (Mz rfl (Mz rfl ?_))
 have bg:a.ag.ls.length=p.length:=by first | omega | (simp only [L7]; done) | (simp only [L7,o0,r5,K1,m8,m9,N2]; omega)
 have kD:Own w D kC [blk bU (aP.cells b) 99,blk g0 [vP u 0, .slice O M.av.bD.ls.length P, .slice W M.av.aL.ls.length V, .bool M.av.bU, .slice aO Y.length aQ] 92,row O M.av.bD.ls.length P (q2 bV.cells Q) 47 21,sepL (q2 IR Q),blk B [.slice F C.xM.ls.length E] 27,blk x [.slice df aG.length dh] 114,jv aO Y.length aQ (q2 dB.cells Y) 216 2,row df aG.length dh (q2 ay.cells bC) 164 6,sepL (q2 Iy bC),blk u (kB a G a.aa.ah.ls.length I s a.aa.ak.ls.length h J a.aa.af.ls.length K a.aa.bi B d p.length l x) 80,row s a.aa.ak.ls.length h (q2 bf.cells j) 60 2,sepL (q2 IK j),row d p.length l (q2 aP.cells T) 99 4,sepL (q2 IA T)]:=by first | (rw [<- bg]; exact gU) | (have q9:=gU; rw [bg] at q9; exact q9)
 have dD:=kD.pf [9]
 have ma:=zr 12 dD
 obtain⟨⟨dE,gV⟩,fF⟩:∃ q:Int × Bool,bX (ax.mk a.aa (F2 p)) b.au=q:=⟨_,rfl⟩
 obtain⟨nS,iU,mf,iV,dm⟩:=IE dD
 refine cl Tryz.call79 (je _ _ u (ax.mk a.aa (F2 p)) G I s h J K d l T B x b.au dE gV iU aj (dm _ 11 _ rfl bP) e8 (λ x9 h9=>⟨dm _ 12 _ rfl (bL (O3.2 ⟨x9,h9,b3⟩) bP),dC (φ:=λ _=>_) dD (i:=13) rfl (bL (O3.2 ⟨x9,h9,b3⟩) dK),dm _ 12 _ rfl (bL (O3.2 ⟨x9,h9, .tail _ b3⟩) bP),dC (φ:=λ _=>_) dD (i:=13) rfl (bL (O3.2 ⟨x9,h9, .tail _ b3⟩) dK)⟩) f0 fF) ?_
 rintro _ nT ⟨rfl,iW,fG,fI⟩
 have gW:=iV _ _ iW
 replace fG:0<=dE/\dE<=(p.length:Int):=fG
 replace fI:Bool.toNat gV=0\/dE < (p.length:Int):=fI
 obtain⟨iX,iY⟩:=fB ((su (m:=(ax.mk a.aa (F2 p))) (i:=(G0 g)) (Tk.wu f6) ⟨_,av,rfl⟩).symm.trans fF)
 subst iX iY
 refine Mz rfl (Kz (vJ (G0 g)) (Kz (.bool true) (Az rfl (Ar rfl (Mn rfl (jt (H8 (Mz rfl (Mz rfl (Kz (vP u 0) (Kz (vP u 18) (Lz (.slice d p.length l) gW 0 Tryz.isAgg77 (Mz rfl (Mz rfl (fw (vJ (G0 g+1)) (Ig (e:=IntKind.i64.wrap (((G0 g:Nat):Int)+1)) yk f1) ?_)))))))))))))))
 have kE:=gW.pf [12,13]
 obtain⟨nV,iZ,mg,ja,mh⟩:=IX kE
 refine cl Tryz.call142 (uf _ _ d p.length l T p ((G0 g:Nat):Int) ((G0 g+1:Nat):Int) (G0 g) b iZ e8 aj e8 e8 e8 Z) ?_
 rintro _ nW ⟨dJ,dL,rfl,jb⟩
 have fJ:=ja _ _ jb
 have mi:q7 (t6 (G0 g) T++s0 ((G0 g)+1) T)=q7 (t6 (G0 g) p++s0 ((G0 g)+1) p):=by exact aY (nU aj)
 have mo:q7 (t6 (G0 g) p++s0 ((G0 g)+1) p)+1=p.length:=by simp only [o0,m8,m9]; omega
 have mq:=zr 2 fJ
 have mr:=zr 3 fJ
 refine Kz (vP u 0) (Kz (vP u 18) ?_)
 have kF:=fJ.pf [4]
 refine cu [.slice dJ (q7 (t6 (G0 g) p++s0 ((G0 g)+1) p)) dL] 18 kF Tryz.sizeOf77 ?_
 intro nX kG
 refine WL.nil (IV (res0 rfl) ?_)
 have dM:=kG.pb [0,1,2,3,4,14,15]
 refine⟨.inr ⟨_,dM⟩, ?_⟩
 refine qn (Ib (sr (Kz (vP bU 0) (Lz (vU b.au) dM 0 E1 (Kz (vP bU 1) (Lz (.slice b.cz.A b.cz.ls.length b.cz.c) dM 0 Tryz.isAgg44 (Kz (.agg #[vU b.au, .slice b.cz.A b.cz.ls.length b.cz.c]) ?_)))))))
 refine bW [.int .u64 0, .slice none 0 0] 60 dM ?_
 intro nY nZ kH
 refine cu [vU b.au, .slice b.cz.A b.cz.ls.length b.cz.c] 0 kH E0 ?_
 intro og kI
 refine nt (H7 ?_)
 refine mJ 17 [] (Ik Iw) kI ?_
 intro oh kJ
 refine qv 0 rfl rfl (qp g0 0 1 rfl (qp g0 0 2 rfl (ql 3 rfl 2 Q8 rfl rfl rfl (qp bU 0 4 rfl (ql 5 rfl 1 E1 rfl rfl rfl ?_)))))
 have fK:=kJ.pf [10]
 have mD:=zr 15 fK
 obtain⟨⟨L,fM⟩,fP⟩:∃ q:Int × Bool,d9 (ax.mk a.aa (F2 (t6 (G0 g) p++s0 ((G0 g)+1) p))) b.au=q:=⟨_,rfl⟩
 obtain⟨ol,jc,mE,jd,fQ⟩:=IE fK
 refine qd 6 rfl (IB Tryz.call77 rfl (mX _ _ u (ax.mk a.aa (F2 (t6 (G0 g) p++s0 ((G0 g)+1) p))) G I s h j J K dJ dL B x b.au L fM jc R (fQ _ 14 _ rfl bP) e8 (λ x9 h9=>⟨fQ _ 15 _ rfl (bL (O3.2 ⟨x9,h9,b3⟩) bP),dC (φ:=λ _=>_) fK (i:=16) rfl (bL (O3.2 ⟨x9,h9,b3⟩) dK)⟩) f0 fP) ?_)
 rintro _ om ⟨rfl,jf,fT,fU⟩
 have kK:=jd _ _ jf
 replace fT:0<=L/\L<=(a.aa.ak.ls.length:Int):=fT
 replace fU:Bool.toNat fM=0\/L < (a.aa.ak.ls.length:Int):=fU
 have gX:=kK.pb [0,11,12,13,14,15,16]
 refine⟨.inr ⟨_,gX⟩, ?_⟩
 refine qv 7 rfl rfl (qk (vI L) 8 rfl (qk (.bool fM) 9 rfl (qa 10 rfl rfl (qa 11 rfl rfl (qn (Ib (H7 ?_)))))))
 have kL:=gX.px [] [1] []
 have kM:=kL.pf [0,1,4,5,9]
 refine EP [19] (Ik Iw) kM ?_
 intro oo kN
 refine qv 0 rfl rfl (qp g0 0 1 rfl (qp g0 0 2 rfl (ql 3 rfl 1 Q8 rfl rfl rfl (qv 4 rfl rfl (qp g0 0 5 rfl (qp g0 0 6 rfl (ql 7 rfl 1 Q8 rfl rfl rfl (qp u 0 8 rfl (qp u 0 9 rfl (qp u 6 10 rfl (ql 11 rfl 4 Tryz.isAgg34 rfl rfl rfl (qv 12 rfl rfl (qb 13 rfl 0 Tryz.isAgg60 E0 rfl rfl rfl ?_)))))))))))))
 refine qd 14 rfl (Jn (cs:= [vU b.au, .slice b.cz.A b.cz.ls.length b.cz.c]) (t:=60) (sz:=2) (m:=1) kN rfl rfl (λ _=>by kernel_rfl) rfl ?_)
 intro gY oq fV
 replace fV:=IL (y:=lN gY 1 (q2 bf.cells ([(bf.mk b.au (Sv.mk b.cz.A b.cz.c b.cz.ls))])) 60 2) rfl fV
 have gZ:=fV.pf [1,2,3,4,5]
 refine⟨.inr ⟨_,gZ⟩, ?_⟩
 have kP:=gZ.pf [15,5,16,13]
 obtain⟨ou,jh,mF,ji,mG⟩:=Jp kP
 refine qd 15 rfl (IB Tryz.call182 rfl (zz _ _ s a.aa.ak.ls.length h j a.aa.ak.ls L (G0 L) gY (bf.mk b.au (Sv.mk b.cz.A b.cz.c b.cz.ls)) (dA.mk b.au (F2 b.cz.ls)) jh e8 R rfl e8 e8 e8) ?_)
 rintro _ ow ⟨fZ,gp,rfl,jk⟩
 have kQ:=ji _ _ jk
 have mH:q7 (t6 (G0 L) j++((bf.mk b.au (Sv.mk b.cz.A b.cz.c b.cz.ls))::s0 (G0 L) j))=q7 (t6 (G0 L) a.aa.ak.ls++((dA.mk b.au (F2 b.cz.ls))::s0 (G0 L) a.aa.ak.ls)):=by exact aY (jJ (z:=(dA.mk b.au (F2 b.cz.ls))) R rfl)
 have mI:q7 (t6 (G0 L) a.aa.ak.ls++((dA.mk b.au (F2 b.cz.ls))::s0 (G0 L) a.aa.ak.ls))=a.aa.ak.ls.length+1:=by simp only [o0,m8,r5,m9]; omega
 have ig:=kQ.pf [2,3,4,5,6]
 refine⟨.inr ⟨_,ig⟩, ?_⟩
 refine qp u 0 16 rfl (qp u 0 17 rfl (qp u 6 18 rfl ?_))
 have kR:=ig.pf [4]
 refine qe 19 rfl (Do.store (vs:= [.slice fZ (q7 (t6 (G0 L) a.aa.ak.ls++((dA.mk b.au (F2 b.cz.ls))::s0 (G0 L) a.aa.ak.ls))) gp]) (o:=6) kR rfl rfl Tryz.sizeOf34 rfl rfl rfl rfl ?_)
 intro oz ik
 refine⟨.inl e9, ?_⟩
 refine qn (Ib (sr (Mz rfl (La ([vU b.au, .slice b.cz.A b.cz.ls.length b.cz.c]) ik 1 Tryz.isAgg60 E0 ?_))))
 have kS:=ik.pf [2,7,8,0,3]
 obtain⟨⟨il,gq⟩,gu⟩:∃ q:Int × bI,ib (bI.mk M.av (F2 Y)) (dA.mk b.au (F2 b.cz.ls)) (ax.mk (bA.mk a.aa.bC a.aa.aQ a.aa.bq a.aa.aJ a.aa.aD (F2 a.aa.ah.ls) (F2 (t6 (G0 L) a.aa.ak.ls++((dA.mk b.au (F2 b.cz.ls))::s0 (G0 L) a.aa.ak.ls))) (F2 a.aa.af.ls) a.aa.bi a.aa.aI a.aa.aH a.aa.aC) (F2 (t6 (G0 g) p++s0 ((G0 g)+1) p))) C=q:=⟨_,rfl⟩
 obtain⟨oC,jl,gy,jm,jo⟩:=JF kS
 refine cl Tryz.call78 (rA _ _ g0 (bI.mk M.av (F2 Y)) O P Q W V aO aQ (dA.mk b.au (F2 b.cz.ls)) b.cz.A b.cz.ls.length b.cz.c u (ax.mk (bA.mk a.aa.bC a.aa.aQ a.aa.bq a.aa.aJ a.aa.aD (F2 a.aa.ah.ls) (F2 (t6 (G0 L) a.aa.ak.ls++((dA.mk b.au (F2 b.cz.ls))::s0 (G0 L) a.aa.ak.ls))) (F2 a.aa.af.ls) a.aa.bi a.aa.aI a.aa.aH a.aa.aC) (F2 (t6 (G0 g) p++s0 ((G0 g)+1) p))) G I fZ gp J K dJ dL x B C F E il gq jl aH (gy _ iA) e8 rfl (jo _ 3 _ rfl (bL (O3.2 ⟨_,List.mem_append_right _ b3,b3⟩) bP)) e8 (gy _ bZ) e8 f0 gu) ?_
 rintro _ oD ⟨kT,kU,kV,rfl,jq,gz,gB⟩
 have iq:=jm _ _ jq
 have mK:=aY gz
 have mM:=zr 1 iq
 replace gB:gq.av.bD.ls.length<=M.av.bD.ls.length+1:=gB
 refine An rfl (rt (rs (An rfl (rt (rs ?_)))))
 have kW:=iq.px [0,1,2,9] [5,14] [4,6,10,11]
 obtain⟨rfl,rfl,rfl,rfl⟩:=gH (zj hr (show _=(il,bI.mk (dH.mk (F2 gq.av.bD.ls) (F2 M.av.aL.ls) M.av.bU) (F2 Y),ax.mk (bA.mk a.aa.bC a.aa.aQ a.aa.bq a.aa.aJ a.aa.aD (F2 a.aa.ah.ls) (F2 (t6 (G0 L) a.aa.ak.ls++((dA.mk b.au (F2 b.cz.ls))::s0 (G0 L) a.aa.ak.ls))) (F2 a.aa.af.ls) a.aa.bi a.aa.aI a.aa.aH a.aa.aC) (F2 (t6 (G0 g) p++s0 ((G0 g)+1) p)),aW.mk (F2 aG)) from et (ae aK) (et (ip aN) (et (lw iR) (et (ae fP) (ae gu))))))
 exact⟨kT,kU,kV,aO,aQ,fZ,gp,(t6 (G0 L) j++((bf.mk b.au (Sv.mk b.cz.A b.cz.c b.cz.ls))::s0 (G0 L) j)),dJ,dL,(t6 (G0 g) T++s0 ((G0 g)+1) T),df,dh,bC,(by first | rfl | (rw [<- bg]; done) | (rw [<- bg]; rfl) | (rw [bg]; first | done | rfl)),kW,gz,(jJ (z:=(dA.mk b.au (F2 b.cz.ls))) R rfl),(nU aj),eO⟩
 have h36t:Bool.toNat cZ=0:=by rw [aN]; rfl
 refine jT (cn aN) (sr (An rfl (rt (tR (rs ?_)))))
 have kX:=bz.pf [1,2,3,4]
 obtain⟨rfl,rfl,rfl,rfl⟩:=gH (zj hr (show _=(0,M,a,N) from et (ae aK) (eF aN))).symm
 exact⟨O,P,Q,dn,dw,s,h,j,d,l,aa,ak,au,X,rfl,kX,aH,R,ai,aC⟩
end
open List renaming mem_singleton->m2,nodup_append->u5,nodup_nil->S7,not_mem_nil->v1
open Nat renaming ne_of_lt->S6
theorem put_mem {l:List aM} {t:Nat} {x:aF} {q:aM} (h:q ∈ iC l t x):(q.au=t/\q.bn=false)\/(q ∈ l/\q.au≠t):=by
  unfold iC at h
  rcases S1.1 h with h | h
  . have:=P0.1 h
    exact .inr ⟨this.1,S6 (of_decide_eq_true this.2)⟩
  . rcases List.mem_cons.1 h with h | h
    . rw [h]; exact .inl ⟨rfl,rfl⟩
    . have:=P0.1 h
      exact .inr ⟨this.1,Nat.ne_of_gt (of_decide_eq_true this.2)⟩
theorem yP {t:Nat} {x:aF} {q:aM} (h:dies t x q=true):q.bn=true:=by unfold dies at h; exact(Bool.and_eq_true _ _ ▸ h).1
theorem uR {l:List aM} {t:Nat} {x:aF} {n:Nat} (h:n ∈ s1 (λ q:aM=>q.au) ((iC l t x).filter (dies t x))):∃ q ∈ l,q.au=n/\q.bn=true/\n≠t:=by
  obtain⟨q,hq,rfl⟩:=S4.1 h
  obtain⟨c,b⟩:=P0.1 hq
  rcases put_mem c with ⟨_,a⟩ | ⟨a,d⟩
  . rw [yP b] at a; cases a
  . exact⟨q,a,rfl,yP b,d⟩
theorem Bj {l:List aM} (hs:Up l) {t:Nat} {x:aF} {n:Nat} (h:n ∈ s1 (λ q:aM=>q.au) ((iC l t x).filter (dies t x))):∀ r ∈ (iC l t x).filter (λ s=> !dies t x s),r.au≠n:=λ r hr e=>by
  obtain⟨q,hq,rfl⟩:=S4.1 h
  obtain⟨b,c⟩:=P0.1 hq
  obtain⟨d,a⟩:=P0.1 hr
  have:=yJ (q8 hs t x) d b e
  subst this
  rw [c] at a
  exact absurd a f5
theorem zN {l:List aM} (hs:Up l) {t:Nat} {x:aF}:(s1 (λ q:aM=>q.au) ((iC l t x).filter (dies t x))).Nodup:=
  S3.2 (((q8 hs t x).filter _).imp λ e=>S6 e)
structure Se (m0 l:List aM) (g d:List Nat):Prop where
  wt:∀ r ∈ l,r.bn=true->∃ s ∈ m0,s.au=r.au/\s.bn=true
  gw:∀ n ∈ g, ∃ s ∈ m0,s.au=n/\s.bn=true
  dw:∀ n ∈ d, ∃ s ∈ m0,s.au=n/\s.bn=true
  dn:∀ n ∈ d, ∀ r ∈ l,r.au≠n
  gn:∀ n ∈ g, ∀ r ∈ l,r.au=n->r.bn=false
  nd:(g++d).Nodup
theorem Se.step {o l:List aM} {g d:List Nat} {r:aM} (hf:Fit l) (h:Se o l g d) (hr:r ∈ l) (hw:r.bn=true):
    Se o ((iC l r.au r.bg).filter λ s=> !dies r.au r.bg s) (g++ [r.au]) (d++s1 (λ q:aM=>q.au) ((iC l r.au r.bg).filter (dies r.au r.bg))) where
  wt:=λ q hq hqw=>by
    rcases put_mem (P0.1 hq).1 with ⟨_,c⟩ | ⟨c,_⟩
    . rw [hqw] at c; cases c
    . exact h.wt q c hqw
  gw:=λ n hn=>by
    rcases S1.1 hn with e | e
    . exact h.gw n e
    . rw [m2.1 e]; exact h.wt r hr hw
  dw:=λ n hn=>by
    rcases S1.1 hn with e | e
    . exact h.dw n e
    . obtain⟨q,i,rfl,c,_⟩:=uR e
      exact h.wt q i c
  dn:=λ n hn q hq=>by
    rcases S1.1 hn with e | e
    . rcases put_mem (P0.1 hq).1 with ⟨c,_⟩ | ⟨c,_⟩
      . rw [c]; exact h.dn n e r hr
      . exact h.dn n e q c
    . exact Bj hf.up e q hq
  gn:=λ n hn q hq hqn=>by
    rcases put_mem (P0.1 hq).1 with ⟨_,c⟩ | ⟨c,m⟩
    . exact c
    . rcases S1.1 hn with e | e
      . exact h.gn n e q c hqn
      . exact absurd (hqn.trans (m2.1 e)) m
  nd:=by
    have p:r.au ∉ g:=λ e=>by have:=h.gn _ e r hr rfl; rw [hw] at this; cases this
    have t:r.au ∉ d:=λ e=>h.dn _ e r hr rfl
    obtain⟨u,v,w⟩:=u5.1 h.nd
    refine u5.2 ⟨u5.2 ⟨u,by simp,λ a ha b hb e=>by rw [m2.1 hb] at e; exact p (e ▸ ha)⟩,u5.2 ⟨v,zN hf.up,λ a ha b hb e=> ?_⟩,λ a ha b hb e=> ?_⟩
    . obtain⟨q,i,j,_⟩:=uR hb
      exact h.dn a ha q i (by rw [j,e])
    . subst e
      rcases S1.1 ha with k | k
      . rcases S1.1 hb with f | f
        . exact w a k a f rfl
        . obtain⟨q,i,j,c,_⟩:=uR f
          have:=h.gn a k q i j
          rw [c] at this; cases this
      . rw [m2.1 k] at hb
        rcases S1.1 hb with f | f
        . exact t f
        . obtain⟨q,i,j,c,m⟩:=uR f
          exact m rfl
theorem wU {a m:List aM} {g d:List Nat} (hf:Fit m) (h:Se a m g d):Se a (dz (Wt m+1) m g d).1 (dz (Wt m+1) m g d).2.1 (dz (Wt m+1) m g d).2.2:=
  (sU (I:=λ l g' d'=>Se a l g' d') (λ l g' d' r hf hI hr hw _=>hI.step hf hr hw) (Wt m+1) m g d e8 hf h).1
structure Sf (k:Nat) (m0 l:List aM) (g d:List Nat):Prop where
  wt:∀ r ∈ l,r.bn=true->r.au=k\/∃ s ∈ m0,s.au=r.au/\s.bn=true
  gw:∀ n ∈ g, ∃ s ∈ m0,s.au=n/\s.bn=true
  dw:∀ n ∈ d, ∃ s ∈ m0,s.au=n/\s.bn=true
  dn:∀ n ∈ d, ∀ r ∈ l,r.au≠n
  gn:∀ n ∈ g, ∀ r ∈ l,r.au=n->r.bn=false
  nd:(g++d).Nodup
theorem Se.sf {k:Nat} {a l:List aM} {g d:List Nat} (h:Se a l g d):Sf k a l (rq g) (rq d) where
  wt:=λ r hr hw=> .inr (h.wt r hr hw)
  gw:=λ n hn=>h.gw n (xg.1 hn)
  dw:=λ n hn=>h.dw n (xg.1 hn)
  dn:=λ n hn=>h.dn n (xg.1 hn)
  gn:=λ n hn=>h.gn n (xg.1 hn)
  nd:=(((xQ g).append (xQ d)).nodup_iff).2 h.nd
theorem uS (k:Nat) (m:List aM):Sf k m m [] []:=⟨λ r hr hw=> .inr ⟨r,hr,rfl,hw⟩,λ _ h=>absurd h v1,λ _ h=>absurd h v1,λ _ h=>absurd h v1,λ _ h=>absurd h v1,S7⟩
theorem Bl {m:List aM} (hs:Up m) (t:Nat) (x:aF):Se m (gR m t x) [] (gD m t x) where
  wt:=λ q hq hqw=>by
    rcases put_mem (P0.1 hq).1 with ⟨_,a⟩ | ⟨a,_⟩
    . rw [hqw] at a; cases a
    . exact⟨q,a,rfl,hqw⟩
  gw:=λ _ h=>absurd h v1
  dw:=λ n hn=>by
    obtain⟨q,b,c,a,_⟩:=uR hn
    exact⟨q,b,c,a⟩
  dn:=λ n hn=>Bj hs hn
  gn:=λ _ h=>absurd h v1
  nd:=zN hs
theorem EG {m:List aM} {t:Nat} {x:aF} {q:aM} (h:q ∈ oQ m t x):q.au=t\/q ∈ m:=by
  unfold oQ at h
  rcases S1.1 h with h | h
  . exact .inr (P0.1 h).1
  . rcases List.mem_cons.1 h with h | h
    . rw [h]; exact .inl rfl
    . exact .inr (P0.1 h).1
theorem BI {m:List aM} (hs:Up m) {t:Nat} (h:fI (aW.mk (F2 m)) t≠true):∀ r ∈ m,r.au=t->r.bn=false:=λ r hr e=>by
  unfold fI at h
  rw [bK] at h
  rcases ma hs t with ⟨a,p,q,rfl,hp,ha,hq,hf⟩ | ⟨a,q,rfl,ha,hq,hf⟩
  . rw [hf,if_pos rfl,bK] at h
    simp only [Int.toNat_natCast,gd] at h
    have:r=p:=yJ hs hr i3 (by rw [e,hp])
    rw [this]; exact Bool.eq_false_iff.2 h
  . rcases S1.1 hr with b | b
    . exact absurd e (S6 (ha r b))
    . exact absurd e (Nat.ne_of_gt (hq r b))
theorem Fv {m:List aM} (h:jy m) (t:Nat) (x:aF):Sf t m (nX m t x).2.2.2.2 (nX m t x).2.1 (nX m t x).2.2.1/\((nX m t x).2.2.2.1=0->∀ r ∈ m,r.au=t->r.bn=false):=by
  have nw:=BI (t:=t) h.up
  unfold nX
  by_cases b:dU x.aA=0
  . rw [if_pos b]
    by_cases a:fI (aW.mk (F2 m)) t=true
    . rw [if_pos a]; exact⟨uS t m,λ e=>absurd (show (4:Int)=0 from e) f5⟩
    . rw [if_neg a]
      by_cases c:jW (aW.mk (F2 m)) t x=true
      . rw [if_pos c]; exact⟨uS t m,λ _=>nw a⟩
      . rw [if_neg c]
        by_cases d:192<=kC m
        . rw [if_pos d]; exact⟨uS t m,λ _=>nw a⟩
        . rw [if_neg d]
          by_cases f:dX (aW.mk (F2 m)) t x= []
          . rw [if_pos f]
            obtain⟨j,k⟩:=uQ m h.up t x
            have l:=vk m h.up t x
            have n:=h.len
            have o:=h.tot
            have i:kC (gR m t x)<=kC (iC m t x):=lV _ _
            have p:List.length (gR m t x)<=List.length (iC m t x):=List.length_filter_le _ _
            have hf:Fit (gR m t x):=⟨(q8 h.up t x).filter _,e8,e8⟩
            exact⟨(wU hf (Bl h.up t x)).sf,λ _=>nw a⟩
          . rw [if_neg f]
            by_cases g:List.getD (dX (aW.mk (F2 m)) t x) 0 default < t
            . rw [if_pos g]; exact⟨uS t m,λ _=>nw a⟩
            . rw [if_neg g]
              refine⟨⟨λ r hr hw=> ?_,λ _ h=>absurd h v1,λ _ h=>absurd h v1,λ _ h=>absurd h v1,λ _ h=>absurd h v1,S7⟩,λ _=>nw a⟩
              rcases EG hr with e | e
              . exact .inl e
              . exact .inr ⟨r,e,rfl,hw⟩
  . rw [if_neg b]; exact⟨uS t m,λ e=>absurd (show (21:Int)=0 from e) f5⟩
theorem Gb {m:List aM} (h:jy m) {t:Nat} {x:aF} {s e:Int} {g d:List Nat} {r:aW} (hr:iT (aW.mk (F2 m)) t x=(s,g,d,e,r)):
    Sf t m r.ai.ls g d/\(e=0->∀ r ∈ m,r.au=t->r.bn=false):=by
  have a:=Fv h t x
  rw [vE h] at hr
  have b:g=_:=(congrArg (λ q=>q.2.1) hr).symm
  have c:d=_:=(congrArg (λ q=>q.2.2.1) hr).symm
  have f:e=_:=(congrArg (λ q=>q.2.2.2.1) hr).symm
  have i:r=_:=(congrArg (λ q=>q.2.2.2.2) hr).symm
  rw [b,c,f,i]
  exact a
theorem CX {m:List aM} (h:jy m) {t:Nat} {g d:List Nat} {r:aW} (hr:iD (aW.mk (F2 m)) t=(g,d,r)):Sf t m r.ai.ls g d/\∀ n,n ∈ g\/n ∈ d->n≠t:=by
  unfold iD at hr
  rw [bK,bK,qH h.up,rW] at hr
  have b:g=_:=(congrArg (λ q=>q.1) hr).symm
  have c:d=_:=(congrArg (λ q=>q.2.1) hr).symm
  have f:r=_:=(congrArg (λ q=>q.2.2) hr).symm
  have hf:Fit (but t m):=h.fit.filter _
  have i:Se (but t m) (but t m) [] []:=⟨λ r hr hw=>⟨r,hr,rfl,hw⟩,λ _ h=>absurd h v1,λ _ h=>absurd h v1,λ _ h=>absurd h v1,λ _ h=>absurd h v1,S7⟩
  have a:Sf t (but t m) r.ai.ls g d:=by rw [b,c,f]; exact(wU hf i).sf
  have up:∀ n,(∃ s ∈ but t m,s.au=n/\s.bn=true)->(∃ s ∈ m,s.au=n/\s.bn=true)/\n≠t:=λ n ⟨s,hs,e,w⟩=>by
    obtain⟨j,k2⟩:=P0.1 hs
    exact⟨⟨s,j,e,w⟩,by rw [<- e]; exact of_decide_eq_true k2⟩
  refine⟨⟨λ r hr hw=> ?_,λ n hn=>(up n (a.gw n hn)).1,λ n hn=>(up n (a.dw n hn)).1,a.dn,a.gn,a.nd⟩,λ n hn=> ?_⟩
  . rcases a.wt r hr hw with e | e
    . exact .inl e
    . exact .inr (up _ e).1
  . rcases hn with e | e
    . exact(up n (a.gw n e)).2
    . exact(up n (a.dw n e)).2
structure Li (line:List dB) (rs:List aM):Prop where
  dead:∀ f ∈ line,f.dE=true->∀ r ∈ rs,r.au≠f.au
  zG:∀ f ∈ line,f.dE=false->∀ r ∈ rs,r.au=f.au->r.bn=false
  El:line.Pairwise λ a b=>a.au≠b.au
theorem yQ (rs:List aM):Li [] rs:=⟨λ _ h=>absurd h v1,λ _ h=>absurd h v1,List.Pairwise.nil⟩
theorem Li.tail {f:dB} {l:List dB} {rs:List aM} (h:Li (f::l) rs):Li l rs/\∀ q ∈ l,q.au≠f.au:=
  ⟨⟨λ q hq=>h.dead q (.tail _ hq),λ q hq=>h.zG q (.tail _ hq),(M2.1 h.El).2⟩,λ q hq=>((M2.1 h.El).1 q hq).symm⟩
theorem Li.step {line:List dB} {rs rs':List aM} {g d:List Nat} {k:Nat} (h:Li line rs) (hk:∀ f ∈ line,f.au≠k) (hin:∀ q ∈ rs',q.au=k\/∃ s ∈ rs,s.au=q.au) (hs:Sf k rs rs' g d):
    Li ((line++d.map λ n=>dB.mk n true)++g.map λ n=>dB.mk n false) rs' where
  dead:=λ f hf hd r hr e=>by
    rcases S1.1 hf with i | i
    . rcases S1.1 i with a | a
      . rcases hin r hr with c | ⟨s,b,c⟩
        . exact hk f a (by rw [<- e,c])
        . exact h.dead f a hd s b (by rw [c,e])
      . obtain⟨n,hn,rfl⟩:=S4.1 a
        exact hs.dn n hn r hr e
    . obtain⟨n,hn,rfl⟩:=S4.1 i
      cases hd
  zG:=λ f hf hd r hr e=>by
    rcases S1.1 hf with i | i
    . rcases S1.1 i with a | a
      . cases hw:r.bn with
        | false=>rfl
        | true=>
          rcases hs.wt r hr hw with c | ⟨s,b,c,j⟩
          . exact absurd (by rw [<- e,c]) (hk f a)
          . have:=h.zG f a hd s b (by rw [c,e])
            rw [j] at this; cases this
      . obtain⟨n,hn,rfl⟩:=S4.1 a
        cases hd
    . obtain⟨n,hn,rfl⟩:=S4.1 i
      exact hs.gn n hn r hr e
  El:=by
    obtain⟨o,l,p⟩:=u5.1 hs.nd
    have old:∀ f ∈ line, ∀ n,(∃ s ∈ rs,s.au=n/\s.bn=true)->f.au≠n:=λ f hf n ⟨s,b,e,hw⟩ c=>by
      cases hd:f.dE with
      | true=>exact h.dead f hf hd s b (by rw [e,c])
      | false=>have:=h.zG f hf hd s b (by rw [e,c]); rw [hw] at this; cases this
    refine O5.2 ⟨O5.2 ⟨h.El,S3.2 l,λ f hf q hq=> ?_⟩,S3.2 o,λ f hf q hq=> ?_⟩
    . obtain⟨n,hn,rfl⟩:=S4.1 hq
      exact old f hf n (hs.dw n hn)
    . obtain⟨n,hn,rfl⟩:=S4.1 hq
      rcases S1.1 hf with a | a
      . exact old f a n (hs.gw n hn)
      . obtain⟨l,m,rfl⟩:=S4.1 a
        exact(p n hn l m).symm
open Int renaming toNat_natCast->M7
open List renaming filter_append->O6,filter_eq_self->S8,mem_append_left->r6,mem_cons->u3,mem_of_mem_drop->T0,mem_of_mem_take->L5,take_left'->u1
open Nat renaming le_refl->s3,le_succ->T1,ne_of_gt->S9,succ_le_succ->T2
theorem GZ (p:bI) (g:List Nat):∀ (d:List Nat) (l:List dB),iE p g d l=l++d.map λ n=>dB.mk n true
  | [],l=>by simp [iE]
  | x::d,l=>by rw [iE,GZ p g d]; simp
theorem G5 (p:bI):∀ (g:List Nat) (l:List dB),iF p g l=l++g.map λ n=>dB.mk n false
  | [],l=>by simp [iF]
  | x::g,l=>by rw [iF,G5 p g]; simp
theorem uD (p:bI) (g d:List Nat):lm p g d=bI.mk p.av (F2 ((p.bE.ls++d.map λ n=>dB.mk n true)++g.map λ n=>dB.mk n false)):=by
  unfold lm
  simp only [bK,GZ,G5]
def qE (k:Nat) (l:List bB):List bB:=l.filter λ w=>decide (w.au≠k)
theorem Ah (m:ax) (k:Nat):bX m k=bF m.ag.ls k:=rfl
theorem hfind (m:ax) (k:Nat):d9 m k=bG m.aa.ak.ls k:=rfl
theorem sw {m:ax} (hs:r9 m.ag.ls) (k:Nat):dZ m k=ax.mk m.aa (F2 (qE k m.ag.ls)):=by
  unfold dZ
  rw [bK,Ah]
  unfold qE
  rcases si hs k with ⟨a,p,q,b,hp,ha,hq,h⟩ | ⟨a,q,b,ha,hq,h⟩
  . rw [h,if_pos rfl]
    simp only [M7]
    have e:t6 a.length m.ag.ls=a:=by rw [b]; exact u1 rfl
    have f:s0 (a.length+1) m.ag.ls=q:=by rw [b]; simp
    have c:a.filter (λ w=>decide (w.au≠k))=a:=S8.2 λ r hr=>decide_eq_true (S6 (ha r hr))
    have d:q.filter (λ w=>decide (w.au≠k))=q:=S8.2 λ r hr=>decide_eq_true (S9 (hq r hr))
    rw [e,f,b,O6,List.filter_cons_of_neg (by simp [hp]),c,d]
  . rw [h,if_neg i3]
    have c:a.filter (λ w=>decide (w.au≠k))=a:=S8.2 λ r hr=>decide_eq_true (S6 (ha r hr))
    have d:q.filter (λ w=>decide (w.au≠k))=q:=S8.2 λ r hr=>decide_eq_true (S9 (hq r hr))
    have g:m.ag.ls.filter (λ w=>decide (w.au≠k))=m.ag.ls:=by rw [b,O6,c,d]
    rw [g]
def sg (ws:List bB):Nat:=(ws.map λ w=>G0 ((q7 w.bJ.ls:Int) - w.aS)).sum
def jS (line:List dB) (ws:List bB) (rs:List aM):Nat:=2 *sg ws+Wt rs+q7 line
theorem wV (p:bB->Bool):∀ l:List bB,sg (l.filter p)<=sg l
  | []=>s3 _
  | a::l=>by
    have ih:=wV p l
    rw [List.filter_cons]
    unfold sg at ih ⊢
    by_cases h:p a=true
    . rw [if_pos h]; simp only [s8,P1]; omega
    . rw [if_neg h]; simp only [s8,P1]; omega
theorem yR (a b:List bB):sg (a++b)=sg a+sg b:=by unfold sg; rw [List.map_append,List.sum_append]
theorem xk (a:bB) (b:List bB):sg (a::b)=G0 ((q7 a.bJ.ls:Int) - a.aS)+sg b:=by unfold sg; rw [s8,P1]
theorem sD {α:Type} {l:List α} {i:Nat} {x:α} (hx:l[i]? =some x):l=t6 i l++x::s0 (i+1) l/\q7 (t6 i l)=i:=by
  have h:=(p4.1 hx).1
  refine⟨?_,by rw [m8]; omega⟩
  conv=>lhs; rw [<- s4 i l]
  rw [drop_at hx]
theorem D5 {α:Type} {l:List α} {i:Nat} {x y:α} (hx:l[i]? =some x):L6 l i y=t6 i l++y::s0 (i+1) l:=by
  have h:=(p4.1 hx).1
  rw [List.set_eq_take_append_cons_drop,if_pos h]
theorem D6 {ws:List bB} {i:Nat} {x y:bB} (hx:ws[i]? =some x) (hl:y.bJ=x.bJ) (hy:y.aS=x.aS+1):sg (L6 ws i y)+(if x.aS < (q7 x.bJ.ls:Int) then 1 else 0)=sg ws:=by
  have a:=(sD hx).1
  rw [D5 hx]
  conv=>rhs; rw [a]
  rw [yR,yR,xk,xk,hl,hy]
  split <;> omega
theorem D7 {ws:List bB} (i:Nat):sg (t6 i ws++s0 (i+1) ws)<=sg ws:=by
  have h:sg ws=sg (t6 i ws)+sg (s0 i ws):=by rw [<- yR,s4]
  have a:sg (s0 (i+1) ws)<=sg (s0 i ws):=by
    cases e:ws[i]? with
    | none=>have:=List.getElem?_eq_none_iff.1 e; rw [List.drop_eq_nil_of_le e8]; exact Lm _
    | some x=>rw [drop_at e,xk]; omega
  rw [yR]; omega
def Tx (ws:List bB) (hs:List dA) (n:Nat):Prop:=(∃ w ∈ ws,w.au=n)\/∃ h ∈ hs,h.aU=n
theorem Tk.gone {ws:List bB} {hs:List dA} {rs rs':List aM} {k:Nat} (h:Tk ws hs rs) (hr:∀ q ∈ rs',q.au≠k/\∃ s ∈ rs,s.au=q.au) (hs':jy rs'):Tk (qE k ws) hs rs' where
  wu:=h.wu.filter _
  hu:=h.hu
  dj:=λ w hw z hz=>h.dj w (P0.1 hw).1 z hz
  n:=by have:=h.n; have:=List.length_filter_le (λ w:bB=>decide (w.au≠k)) ws; unfold qE; omega
  gr:=λ w hw=>h.gr w (P0.1 hw).1
  ho:=h.ho
  snd:=hs'
  uT:=λ q hq=>by
    obtain⟨b,s,c,a⟩:=hr q hq
    rcases h.uT s c with ⟨w,hw,e⟩ | ⟨z,hz,e⟩
    . exact .inl ⟨w,P0.2 ⟨hw,decide_eq_true (by rw [e,a]; exact b)⟩,by rw [e,a]⟩
    . exact .inr ⟨z,hz,by rw [e,a]⟩
theorem Fw {hs:List dA} (hu:vT hs) {z:dA} {j:Int} {b:Bool} (hf:bG hs z.aU=(j,b)) (hn:∀ h ∈ hs,h.aU≠z.aU):vT (t6 (G0 j) hs++(z::s0 (G0 j) hs)):=by
  rcases sj hu z.aU with ⟨a,p,q,c,hp,ha,hq,h⟩ | ⟨a,q,c,ha,hq,h⟩
  . exact absurd hp (hn p (by rw [c]; simp))
  . rw [h] at hf
    have d:j=(a.length:Int):=(congrArg Prod.fst hf).symm
    rw [d,M7,c,u1 rfl,List.drop_left' rfl]
    rw [c] at hu
    obtain⟨f,g,i⟩:=O5.1 hu
    exact O5.2 ⟨f,M2.2 ⟨hq,g⟩,λ r hr s hs=>by
      rcases u3.1 hs with e | e
      . rw [e]; exact ha r hr
      . exact i r hr s e⟩
theorem nz {α:Type} {l:List α} {i:Nat} {z x:α}:x ∈ t6 i l++(z::s0 i l)↔x=z\/x ∈ l:=by
  rw [S1,u3]
  constructor
  . rintro (h | h | h)
    . exact .inr (L5 h)
    . exact .inl h
    . exact .inr (T0 h)
  . rintro (h | h)
    . exact .inr (.inl h)
    . rw [<- s4 i l] at h
      rcases S1.1 h with h | h
      . exact .inl h
      . exact .inr (.inr h)
theorem Tk.hold {ws:List bB} {hs:List dA} {rs:List aM} {i:Nat} {x:bB} {j:Int} {b:Bool} (h:Tk ws hs rs) (hx:ws[i]? =some x) (hf:bG hs x.au=(j,b)):
    Tk (t6 i ws++s0 (i+1) ws) (t6 (G0 j) hs++((dA.mk x.au (F2 x.cz.ls))::s0 (G0 j) hs)) rs where
  wu:=by
    have d:=h.wu
    rw [(sD hx).1] at d
    obtain⟨a,b,c⟩:=O5.1 d
    exact O5.2 ⟨a,(M2.1 b).2,λ r hr s hs=>c r hr s (.tail _ hs)⟩
  hu:=Fw (z:=dA.mk x.au (F2 x.cz.ls)) h.hu hf λ z hz=>(h.dj x (D4 hx) z hz).symm
  dj:=λ w hw z hz=>by
    have d:=h.wu
    rw [(sD hx).1] at d
    obtain⟨a,b,c⟩:=O5.1 d
    have hne:w.au≠x.au:=by
      rcases S1.1 hw with e | e
      . exact S6 (c w e x b3)
      . exact S9 ((M2.1 b).1 w e)
    have hm:w ∈ ws:=by
      rcases S1.1 hw with e | e
      . exact L5 e
      . exact T0 e
    rcases nz.1 hz with e | e
    . rw [e]; exact hne
    . exact h.dj w hm z e
  n:=by
    have:=h.n
    have d:=(p4.1 hx).1
    simp only [o0,r5,m8,List.length_drop]
    omega
  gr:=λ w hw=>h.gr w (by
    rcases S1.1 hw with e | e
    . exact L5 e
    . exact T0 e)
  ho:=λ z hz=>by
    rcases nz.1 hz with e | e
    . rw [e]; exact(h.wat hx).2.1
    . exact h.ho z e
  snd:=h.snd
  uT:=λ r hr=>by
    rcases h.uT r hr with ⟨w,hw,e⟩ | ⟨z,hz,e⟩
    . rw [(sD hx).1] at hw
      rcases S1.1 hw with f | f
      . exact .inl ⟨w,r6 _ f,e⟩
      . rcases u3.1 f with g | g
        . exact .inr ⟨_,nz.2 (.inl rfl),by rw [<- e,g]⟩
        . exact .inl ⟨w,List.mem_append_right _ g,e⟩
    . exact .inr ⟨z,nz.2 (.inr hz),e⟩
theorem D8 {p:bI} {z:dA} {m:ax} {s:StoreT} {e:Int} {t:bI} (h:ib p z m s=(e,t)):t.bE=p.bE/\t.av.aL=p.av.aL/\t.av.bU=p.av.bU/\q7 t.av.bD.ls<=q7 p.av.bD.ls+1:=by
  unfold ib at h
  rw [bK] at h
  split at h
  . obtain⟨_,rfl⟩:=fB h; exact⟨rfl,rfl,rfl,by simp⟩
  . obtain⟨_,rfl⟩:=fB h; exact⟨rfl,rfl,rfl,T1 _⟩
theorem Bn {p:bI} {k:Nat} {m:ax} {tb:aW} (hs:jy tb.ai.ls) {t:bI} {tb':aW} (h:fo p k m tb=(t,tb')):
    t.av=p.av/\(∀ q ∈ tb'.ai.ls,q.au≠k/\∃ s ∈ tb.ai.ls,s.au=q.au)/\jy tb'.ai.ls/\q7 t.bE.ls+Wt tb'.ai.ls<=q7 p.bE.ls+Wt tb.ai.ls/\
      (Li p.bE.ls tb.ai.ls->(∀ f ∈ p.bE.ls,f.au≠k)->Li t.bE.ls tb'.ai.ls):=by
  unfold fo at h
  rw [bK,bK] at h
  cases hr:iD tb k with
  | mk g q=>cases q with
    | mk d e=>
      rw [hr,uD] at h
      obtain⟨rfl,rfl⟩:=fB h
      have c:=BH (m:=tb.ai.ls) hs hr
      refine⟨rfl,c.1,zZ hs hr, ?_,λ a b=>a.step b (λ q hq=> .inr (c.1 q hq).2) (CX hs hr).1⟩
      simp only [o0,r7]
      have:=c.2
      omega
structure Gn (p:bI) (m:ax) (tb:aW) (t:bI) (m':ax) (tb':aW):Prop where
  tk:Tk m'.ag.ls m'.aa.ak.ls tb'.ai.ls
  tx:∀ n,Tx m'.ag.ls m'.aa.ak.ls n->Tx m.ag.ls m.aa.ak.ls n
  out:q7 t.av.bD.ls<=q7 p.av.bD.ls+1
  wr:t.av.aL=p.av.aL
  st:m'.aa= { m.aa with ak:=m'.aa.ak }
  li:Li t.bE.ls tb'.ai.ls
  gt:Gt m'.ag.ls
theorem D9 {ws:List bB} {hs:List dA} {i:Nat} {x y:bB} (hx:ws[i]? =some x) (ht:y.au=x.au) (n:Nat) (h:Tx (L6 ws i y) hs n):Tx ws hs n:=by
  rcases h with h | h
  . rw [yO,xh hx ht, <- yO] at h; exact .inl h
  . exact .inr h
theorem go_loop (p:bI) (k:Nat) (m:ax) (s:StoreT) (r:Int):∀ (q:Nat) (l:List dB) (rs:List aM) (ws:List bB),Tk ws m.aa.ak.ls rs->vV ws (G0 r) k->gm ws (G0 r) < q->Li l rs->(∀ f ∈ l,f.au≠k)->Gx k ws->
    (∀ n,Tx ws m.aa.ak.ls n->Tx m.ag.ls m.aa.ak.ls n)->
    (∀ l' rs' ws' x,ic p k m s r q l rs ws= .inl (l',rs',ws',x)->Tk ws' m.aa.ak.ls rs'/\ws'[G0 r]? =some x/\jS l' ws' rs'<=jS l ws rs/\(∀ n,Tx ws' m.aa.ak.ls n->Tx m.ag.ls m.aa.ak.ls n)/\Li l' rs'/\Gx k ws'/\x.au=k)/\
    (∀ e t m' tb',ic p k m s r q l rs ws= .inr (e,t,m',tb')->Gn p m (aW.mk (F2 rs)) t m' tb'/\0 < gm ws (G0 r)/\jS t.bE.ls m'.ag.ls tb'.ai.ls<=jS l ws rs+1):=by
  intro q
  induction q with
  | zero=>intro l rs ws _ _ h; omega
  | succ q ih=>
    intro l rs ws hk hw hq hli hlk hgx htx
    obtain⟨x,hx,hxt⟩:=id hw
    have hgm:=Af hx
    obtain⟨⟨g0,g9⟩,g1,g2⟩:=hk.wat hx
    rw [ic]
    simp only [bK,bu hx]
    by_cases v:x.aS < ((q7 x.bJ.ls:Nat):Int)
    . rw [if_pos v]
      have hgt:Gt ws:=λ w z=>by
        by_cases e:w.au=k
        . obtain⟨j,hj⟩:=M6.1 z
          have A:=su (m:=ax.mk m.aa (F2 ws)) hk.wu ⟨w,hj,e⟩
          have u:=su (m:=ax.mk m.aa (F2 ws)) hk.wu hw
          rw [A] at u
          have H:j=G0 r:=Int.ofNat.inj (congrArg Prod.fst u)
          rw [H,hx] at hj
          cases hj
          exact v
        . exact hgx w z e
      have hpos:0 < gm ws (G0 r):=by rw [hgm]; omega
      cases ha:iT (aW.mk (F2 rs)) k (List.getD x.bJ.ls (G0 x.aS) default) with
      | mk sv I=>cases I with
        | mk g J=>cases J with
          | mk d K=>cases K with
            | mk e tb=>
              have b:=hk.ask hw ha
              have hpsi:=(zA hk.snd ha).2
              have hsf:=Gb hk.snd ha
              have a:=hli.step hlk (zA hk.snd ha).1 hsf.1
              simp only [uD]
              have hlen:q7 ((l++d.map λ n=>dB.mk n true)++g.map λ n=>dB.mk n false)=q7 l+q7 d+q7 g:=by simp only [o0,r7]
              by_cases C:e=0
              . rw [if_pos C]
                have i:∀ f ∈ (l++d.map λ n=>dB.mk n true)++g.map λ n=>dB.mk n false,f.au≠k:=λ f hf o=>by
                  have hno:∀ n,(∃ s ∈ rs,s.au=n/\s.bn=true)->n≠k:=λ n ⟨s,hs,L,D⟩ M=>by
                    have:=hsf.2 C s hs (by rw [L,M]); rw [D] at this; cases this
                  rcases S1.1 hf with A | A
                  . rcases S1.1 A with u | u
                    . exact hlk f u o
                    . obtain⟨n,hn,rfl⟩:=List.mem_map.1 u
                      exact hno n (hsf.1.dw n hn) o
                  . obtain⟨n,hn,rfl⟩:=List.mem_map.1 A
                    exact hno n (hsf.1.gw n hn) o
                by_cases B:sv=2
                . rw [if_pos B]
                  refine⟨λ _ _ _ _ h=>(by cases h),λ o t m' tb' h=> ?_⟩
                  obtain⟨_,rfl,rfl,rfl⟩:=gH (Sum.inr.inj h)
                  refine⟨⟨b,htx,T1 _,rfl,rfl,a,hgt⟩,hpos, ?_⟩
                  rw [if_pos B] at hpsi
                  unfold jS
                  simp only [hlen]
                  omega
                . rw [if_neg B]
                  rw [if_neg B] at hpsi
                  by_cases G:sv=3
                  . rw [if_pos G]
                    refine⟨λ _ _ _ _ h=>(by cases h),λ o t m' tb' h=> ?_⟩
                    unfold jg at h
                    rw [bK,sw (m:=ax.mk m.aa (F2 ws)) hk.wu] at h
                    simp only at h
                    cases hr:fo (bI.mk (dH.mk (F2 (p.av.bD.ls++ [(dL.mk 4 m.aa.bC 0 0 5 0 0 0 k 0 0 0 0 0 0 false (aj.mk [] []) (F2 []) (F2 []) (F2 []))])) (F2 p.av.aL.ls) p.av.bU) (F2 ((l++d.map λ n=>dB.mk n true)++g.map λ n=>dB.mk n false))) k (ax.mk m.aa (F2 (qE k ws))) tb with
                    | mk N E=>
                      rw [hr] at h
                      obtain⟨_,rfl,rfl,rfl⟩:=gH (Sum.inr.inj h)
                      obtain⟨r1,O,P,Q,R⟩:=Bn b.snd hr
                      refine⟨⟨b.gone O P,λ n hn=>htx n ?_,by simp,rfl,rfl,R a i,λ w hw=>hgt w (P0.1 hw).1⟩,hpos, ?_⟩
                      . rcases hn with ⟨w,hw,e⟩ | hn
                        . exact .inl ⟨w,(P0.1 hw).1,e⟩
                        . exact .inr hn
                      . have h5:=wV (λ w=>decide (w.au≠k)) ws
                        simp only [hlen] at Q
                        unfold jS
                        show 2 *sg (qE k ws)+Wt E.ai.ls+q7 N.bE.ls<=_
                        unfold qE
                        omega
                  . rw [if_neg G]
                    have hbump:=b.bump (y:=bB.mk x.au (F2 x.cz.ls) (F2 x.bJ.ls) (x.aS+1)) hx rfl rfl rfl (show (0:Int)<=x.aS+1/\x.aS+1<=((q7 x.bJ.ls:Nat):Int) by omega)
                    have S:=Bi (y:=bB.mk x.au (F2 x.cz.ls) (F2 x.bJ.ls) (x.aS+1)) hx v rfl rfl
                    have F:=D6 (y:=bB.mk x.au (F2 x.cz.ls) (F2 x.bJ.ls) (x.aS+1)) hx rfl rfl
                    rw [if_pos v] at F
                    have T:jS ((l++d.map λ n=>dB.mk n true)++g.map λ n=>dB.mk n false) (L6 ws (G0 r) (bB.mk x.au (F2 x.cz.ls) (F2 x.bJ.ls) (x.aS+1))) tb.ai.ls+2<=jS l ws rs:=by
                      unfold jS
                      rw [hlen]
                      omega
                    have hi:=ih ((l++d.map λ n=>dB.mk n true)++g.map λ n=>dB.mk n false) tb.ai.ls (L6 ws (G0 r) (bB.mk x.au (F2 x.cz.ls) (F2 x.bJ.ls) (x.aS+1))) hbump (hw.set hx rfl) e8 a i (hgx.set hxt) (λ n hn=>htx n (D9 (y:=bB.mk x.au (F2 x.cz.ls) (F2 x.bJ.ls) (x.aS+1)) hx rfl n hn))
                    refine⟨λ l' rs' ws' x' h=> ?_,λ o t m' tb' h=> ?_⟩
                    . obtain⟨c,U,V,W,X,Y,Z⟩:=hi.1 l' rs' ws' x' h
                      exact⟨c,U,e8,W,X,Y,Z⟩
                    . obtain⟨c,_,V⟩:=hi.2 o t m' tb' h
                      exact⟨⟨c.tk,c.tx,c.out,c.wr,c.st,c.li,c.gt⟩,hpos,e8⟩
              . rw [if_neg C]
                refine⟨λ _ _ _ _ h=>(by cases h),λ o t m' tb' h=> ?_⟩
                obtain⟨_,rfl,rfl,rfl⟩:=gH (Sum.inr.inj h)
                refine⟨⟨b,htx,T1 _,rfl,rfl,⟨λ f hf=>a.dead f (r6 _ (r6 _ hf)),λ f hf=>a.zG f (r6 _ (r6 _ hf)),hli.El⟩,hgt⟩,hpos, ?_⟩
                unfold jS
                show 2 *sg ws+Wt tb.ai.ls+q7 l<=_
                split at hpsi <;> omega
    . rw [if_neg v]
      refine⟨λ l' rs' ws' x' h=> ?_,λ _ _ _ _ h=>(by cases h)⟩
      obtain⟨rfl,rfl,rfl,rfl⟩:=gH (Sum.inl.inj h)
      exact⟨hk,hx,s3 _,htx,hli,hgx,hxt⟩
theorem rQ {p:bI} {k:Nat} {m:ax} {s:StoreT} {tb:aW} (hk:Tk m.ag.ls m.aa.ak.ls tb.ai.ls) (hli:Li p.bE.ls tb.ai.ls) (hlk:∀ f ∈ p.bE.ls,f.au≠k) (hgx:Gx k m.ag.ls) {e:Int} {t:bI} {m':ax} {tb':aW} (h:fH p k m s tb=(e,t,m',tb')):
    Gn p m tb t m' tb'/\(jS t.bE.ls m'.ag.ls tb'.ai.ls<=jS p.bE.ls m.ag.ls tb.ai.ls+1)/\((∀ i,vV m.ag.ls i k->gm m.ag.ls i=0)->jS t.bE.ls m'.ag.ls tb'.ai.ls<=jS p.bE.ls m.ag.ls tb.ai.ls):=by
  unfold fH at h
  rw [bK] at h
  cases hf:bX m k with
  | mk i b=>
    rw [hf] at h
    cases b with
    | false=>
      rw [if_neg i3] at h
      obtain⟨_,rfl,rfl,rfl⟩:=gH h
      refine⟨⟨hk,λ _ h=>h,T1 _,rfl,rfl,hli,λ w hw=>hgx w hw λ d=> ?_⟩,T1 _,λ _=>s3 _⟩
      obtain⟨j,hj⟩:=M6.1 hw
      rw [su hk.wu ⟨w,hj,d⟩] at hf
      exact Bool.noConfusion (show true=false from congrArg Prod.snd hf)
    | true=>
      rw [if_pos rfl] at h
      have hw:=pG hk.wu hf
      obtain⟨hl,hr⟩:=go_loop p k m s i (gm m.ag.ls (G0 i)+1) p.bE.ls tb.ai.ls m.ag.ls hk hw e8 hli hlk hgx (λ _ h=>h)
      cases hg:ic p k m s i (gm m.ag.ls (G0 i)+1) p.bE.ls tb.ai.ls m.ag.ls with
      | inr z=>
        obtain⟨d,D,E,u⟩:=z
        simp only at h
        rw [hg] at h
        obtain⟨rfl,rfl,rfl,rfl⟩:=gH (show (d,D,E,u)=(e,t,m',tb') from h)
        obtain⟨g,q,r⟩:=hr _ _ _ _ hg
        exact⟨⟨g.tk,g.tx,g.out,g.wr,g.st,g.li,g.gt⟩,r,λ F=>by have:=F _ hw; omega⟩
      | inl z=>
        obtain⟨y,l,o,x⟩:=z
        simp only at h
        rw [hg] at h
        obtain⟨g,q,r,G,H,A,J⟩:=hl _ _ _ _ hg
        simp only [lp,bK,hfind] at h
        cases hj:bG m.aa.ak.ls x.au with
        | mk j K=>
          rw [hj] at h
          have hh:=g.hold q hj
          generalize hv:ib _ _ _ _=v at h
          obtain⟨B,L⟩:=v
          obtain⟨M,N,O,I⟩:=D8 hv
          obtain⟨_,rfl,rfl,rfl⟩:=gH h
          refine⟨⟨hh,λ n hn=>G n ?_,I,rfl,rfl,H,λ w hw=> ?_⟩, ?_,λ _=> ?_⟩
          . rcases hn with ⟨w,hw,e⟩ | ⟨z,hz,e⟩
            . refine .inl ⟨w, ?_,e⟩
              rcases S1.1 hw with d | d
              . exact L5 d
              . exact T0 d
            . rcases nz.1 hz with d | d
              . exact .inl ⟨x,D4 q,by rw [<- e,d]⟩
              . exact .inr ⟨z,d,e⟩
          . have C:=g.wu
            rw [(sD q).1] at C
            obtain⟨a,b,c⟩:=O5.1 C
            rcases S1.1 hw with d | d
            . exact A w (L5 d) λ B=>by have:=c w d x b3; omega
            . exact A w (T0 d) λ B=>by have:=(M2.1 b).1 w d; omega
          . have:=D7 (ws:=o) (G0 i)
            unfold jS at r ⊢
            show 2 *sg (t6 _ _++s0 _ _)+Wt l+q7 y<=_
            omega
          . have:=D7 (ws:=o) (G0 i)
            unfold jS at r ⊢
            show 2 *sg (t6 _ _++s0 _ _)+Wt l+q7 y<=_
            omega
theorem drop1 {α:Type} {l:List α} {f:α} (h:l[0]? =some f):l=f::s0 1 l:=by
  cases l with
  | nil=>cases h
  | cons a l=>cases h; rfl
theorem xZ {line:List dB} {f:dB} {m:ax} {hs:List dA} {rs:List aM} {p t:bI} {m':ax} (hk:Tk m.ag.ls hs rs) (hg:Gt m.ag.ls) (hli:Li line rs) (hf:line[0]? =some f) (hd:f.dE=true) (h:jg p f.au m=(t,m')):
    Tk m'.ag.ls hs rs/\Gt m'.ag.ls/\Li (s0 1 line) rs/\jS (s0 1 line) m'.ag.ls rs+1<=jS line m.ag.ls rs:=by
  have e:=drop1 hf
  rw [e] at hli
  unfold jg at h
  rw [bK,sw hk.wu] at h
  obtain⟨_,rfl⟩:=fB h
  refine⟨hk.gone (λ q hq=>⟨hli.dead f b3 hd q hq,q,hq,rfl⟩) hk.snd,λ w hw=>hg w (P0.1 hw).1,hli.tail.1, ?_⟩
  have a:=wV (λ w=>decide (w.au≠f.au)) m.ag.ls
  conv=>rhs; rw [e]
  unfold jS
  show 2 *sg (qE f.au m.ag.ls)+_+_+1<=_
  unfold qE
  simp only [r5]
  omega
theorem zB {line:List dB} {f:dB} {m c:ax} {tb:aW} {i:Int} {x:bB} {p:bI} {s:StoreT} {e:Int} {t:bI} {m':ax} {tb':aW} (hk:Tk m.ag.ls m.aa.ak.ls tb.ai.ls) (hg:Gt m.ag.ls) (hli:Li line tb.ai.ls) (hf:line[0]? =some f)
    (hi:bX m f.au=(i,true)) (hx:m.ag.ls[G0 i]? =some x) (hp:p.bE.ls=s0 1 line) (hm:c=ax.mk m.aa (F2 (L6 m.ag.ls (G0 i) (bB.mk x.au (F2 x.cz.ls) (F2 x.bJ.ls) (x.aS+1)))))
    (h:fH p f.au c s tb=(e,t,m',tb')):
    Tk m'.ag.ls m'.aa.ak.ls tb'.ai.ls/\Gt m'.ag.ls/\Li t.bE.ls tb'.ai.ls/\jS t.bE.ls m'.ag.ls tb'.ai.ls+1<=jS line m.ag.ls tb.ai.ls/\q7 t.av.bD.ls<=q7 p.av.bD.ls+1:=by
  have d:=drop1 hf
  rw [d] at hli
  obtain⟨⟨j,k⟩,l,n⟩:=hk.wat hx
  have hgx:=hg.wat hx
  have hw:=pG hk.wu hi
  obtain⟨y,hy,hyt⟩:=id hw
  rw [hx] at hy; cases hy
  subst hm
  have hb:=hk.bump (y:=bB.mk x.au (F2 x.cz.ls) (F2 x.bJ.ls) (x.aS+1)) hx rfl rfl rfl (show (0:Int)<=x.aS+1/\x.aS+1<=((q7 x.bJ.ls:Nat):Int) by omega)
  have b:=D6 (y:=bB.mk x.au (F2 x.cz.ls) (F2 x.bJ.ls) (x.aS+1)) hx rfl rfl
  rw [if_pos hgx] at b
  obtain⟨a,g,_⟩:=rQ (m:=ax.mk m.aa (F2 _)) hb (by rw [hp]; exact hli.tail.1) (by rw [hp]; exact hli.tail.2) ((hg.gx f.au).set hyt) h
  refine⟨a.tk,a.gt,a.li, ?_,a.out⟩
  conv=>rhs; rw [d]
  rw [hp] at g
  refine Nat.le_trans (T2 g) ?_
  unfold jS
  show 2 *sg (L6 _ _ _)+_+_+1+1<=_
  simp only [r5]
  omega
theorem zC {line:List dB} {f:dB} {m:ax} {tb:aW} {i:Int} {b:Bool} {p:bI} {s:StoreT} {e:Int} {t:bI} {m':ax} {tb':aW} (hk:Tk m.ag.ls m.aa.ak.ls tb.ai.ls) (hg:Gt m.ag.ls) (hli:Li line tb.ai.ls) (hf:line[0]? =some f)
    (hi:bX m f.au=(i,b)) (hb: ¬ b=true) (hp:p.bE.ls=s0 1 line) (h:fH p f.au m s tb=(e,t,m',tb')):
    Tk m'.ag.ls m'.aa.ak.ls tb'.ai.ls/\Gt m'.ag.ls/\Li t.bE.ls tb'.ai.ls/\jS t.bE.ls m'.ag.ls tb'.ai.ls+1<=jS line m.ag.ls tb.ai.ls/\q7 t.av.bD.ls<=q7 p.av.bD.ls+1:=by
  have c:=drop1 hf
  rw [c] at hli
  obtain⟨a,_,g⟩:=rQ hk (by rw [hp]; exact hli.tail.1) (by rw [hp]; exact hli.tail.2) (hg.gx f.au) h
  have d:=g λ j hj=>by
    rw [su hk.wu hj] at hi
    exact absurd (congrArg Prod.snd hi).symm hb
  refine⟨a.tk,a.gt,a.li, ?_,a.out⟩
  conv=>rhs; rw [c]
  rw [hp] at d
  refine Nat.le_trans (T2 d) ?_
  unfold jS
  simp only [r5]
  omega
open _root_.Go.Proofs.Tryz renaming isAgg90->T3
section
open Go.RowKit
def fE (k:bI) (a:ax) (d:StoreT):Nat->List dL->List dB->List dA->List bB->List aM->((List dL) × (List dB) × (List dA) × (List bB) × (List aM)) ⊕ (Int × bI × ax × aW)
  | 0,l,f,h,i,m=>Sum.inl default
  | o+1,l,f,h,i,m=>if(f.length:Int) > 0 then bnd (List.getD f 0 default) λ g=>if g.dE=true then bnd (jg (bI.mk (dH.mk (F2 l) (F2 k.av.aL.ls) k.av.bU) (F2 (s0 1 f))) g.au (ax.mk (bA.mk a.aa.bC a.aa.aQ a.aa.bq a.aa.aJ a.aa.aD (F2 a.aa.ah.ls) (F2 h) (F2 a.aa.af.ls) a.aa.bi a.aa.aI a.aa.aH a.aa.aC) (F2 i))) λ n=>fE k a d o n.1.av.bD.ls (s0 1 f) h n.2.ag.ls m else bnd (bX (ax.mk (bA.mk a.aa.bC a.aa.aQ a.aa.bq a.aa.aJ a.aa.aD (F2 a.aa.ah.ls) (F2 h) (F2 a.aa.af.ls) a.aa.bi a.aa.aI a.aa.aH a.aa.aC) (F2 i)) g.au) λ j=>if j.2=true then bnd (List.getD i (G0 j.1) default) λ e=>bnd (fH (bI.mk (dH.mk (F2 l) (F2 k.av.aL.ls) k.av.bU) (F2 (s0 1 f))) g.au (ax.mk (bA.mk a.aa.bC a.aa.aQ a.aa.bq a.aa.aJ a.aa.aD (F2 a.aa.ah.ls) (F2 h) (F2 a.aa.af.ls) a.aa.bi a.aa.aI a.aa.aH a.aa.aC) (F2 (L6 i (G0 j.1) (bB.mk e.au (F2 e.cz.ls) (F2 e.bJ.ls) (e.aS+1))))) d (aW.mk (F2 m))) λ b=>if b.1=0 then fE k a d o b.2.1.av.bD.ls b.2.1.bE.ls b.2.2.1.aa.ak.ls b.2.2.1.ag.ls b.2.2.2.ai.ls else Sum.inr (b.1,bI.mk (dH.mk (F2 b.2.1.av.bD.ls) (F2 k.av.aL.ls) k.av.bU) (F2 b.2.1.bE.ls),ax.mk (bA.mk a.aa.bC a.aa.aQ a.aa.bq a.aa.aJ a.aa.aD (F2 a.aa.ah.ls) (F2 b.2.2.1.aa.ak.ls) (F2 a.aa.af.ls) a.aa.bi a.aa.aI a.aa.aH a.aa.aC) (F2 b.2.2.1.ag.ls),b.2.2.2) else bnd (fH (bI.mk (dH.mk (F2 l) (F2 k.av.aL.ls) k.av.bU) (F2 (s0 1 f))) g.au (ax.mk (bA.mk a.aa.bC a.aa.aQ a.aa.bq a.aa.aJ a.aa.aD (F2 a.aa.ah.ls) (F2 h) (F2 a.aa.af.ls) a.aa.bi a.aa.aI a.aa.aH a.aa.aC) (F2 i)) d (aW.mk (F2 m))) λ c=>if c.1=0 then fE k a d o c.2.1.av.bD.ls c.2.1.bE.ls c.2.2.1.aa.ak.ls c.2.2.1.ag.ls c.2.2.2.ai.ls else Sum.inr (c.1,bI.mk (dH.mk (F2 c.2.1.av.bD.ls) (F2 k.av.aL.ls) k.av.bU) (F2 c.2.1.bE.ls),ax.mk (bA.mk a.aa.bC a.aa.aQ a.aa.bq a.aa.aJ a.aa.aD (F2 a.aa.ah.ls) (F2 c.2.2.1.aa.ak.ls) (F2 a.aa.af.ls) a.aa.bi a.aa.aI a.aa.aH a.aa.aC) (F2 c.2.2.1.ag.ls),c.2.2.2) else Sum.inl (l,f,h,i,m)
def ed (d:bI) (a:ax) (c:StoreT) (b:aW):Int × bI × ax × aW:=
 lp (fE d a c ((jS d.bE.ls a.ag.ls b.ai.ls)+1) d.av.bD.ls d.bE.ls a.aa.ak.ls a.ag.ls b.ai.ls) λ sLrL=>(0,bI.mk (dH.mk (F2 sLrL.1) (F2 d.av.aL.ls) d.av.bU) (F2 sLrL.2.1),ax.mk (bA.mk a.aa.bC a.aa.aQ a.aa.bq a.aa.aJ a.aa.aD (F2 a.aa.ah.ls) (F2 sLrL.2.2.1) (F2 a.aa.af.ls) a.aa.bi a.aa.aI a.aa.aH a.aa.aC) (F2 sLrL.2.2.2.1),aW.mk (F2 sLrL.2.2.2.2))
theorem nI (w D g0) (A:bI) (dJ dM dx O J dN dO x) (a:ax) (B C aT aU aG E F aV aZ aH j) (d:StoreT) (s r l) (t:aW) (ak au S r0) (r1:bI) (r2:ax) (r3:aW) (H:Own w D w [blk g0 [.pointer (some ⟨x,0,none⟩), .slice dJ A.av.bD.ls.length dM, .slice O A.av.aL.ls.length J, .bool A.av.bU, .slice dN A.bE.ls.length dO] 92,row dJ A.av.bD.ls.length dM (q2 bV.cells dx) 47 21,sepL (q2 IR dx),jv dN A.bE.ls.length dO (q2 dB.cells A.bE.ls) 216 2,blk x (kB a B a.aa.ah.ls.length C aT a.aa.ak.ls.length aU E a.aa.af.ls.length F a.aa.bi j aV a.ag.ls.length aZ l) 80,row aT a.aa.ak.ls.length aU (q2 bf.cells aG) 60 2,sepL (q2 IK aG),row aV a.ag.ls.length aZ (q2 aP.cells aH) 99 4,sepL (q2 IA aH),blk j [.slice s d.xM.ls.length r] 27,blk l [.slice ak t.ai.ls.length au] 114,row ak t.ai.ls.length au (q2 ay.cells S) 164 6,sepL (q2 Iy S)]) (dP:s1 bV.abs dx=A.av.bD.ls) (dQ:Ro w D λ w'=>bO w' 6 O A.av.aL.ls.length (q2 aX.cells A.av.aL.ls)) (jG:A.av.aL.ls.length<=J/\A.av.aL.ls.length<=9223372036854775807) (bz:s1 bf.abs aG=a.aa.ak.ls) (bC:s1 aP.abs aH=a.ag.ls) (aI:Ro w D λ w'=>bO w' 2 s d.xM.ls.length (q2 az.cells d.xM.ls)) (il:d.xM.ls.length<=r/\d.xM.ls.length<=9223372036854775807) (aJ:s1 ay.abs S=t.ai.ls) (lW:Tk a.ag.ls a.aa.ak.ls t.ai.ls) (lX:Gt a.ag.ls) (lY:Li A.bE.ls t.ai.ls) (lZ:a.ag.ls.length+a.aa.ak.ls.length<=6) (l5:t.ai.ls.length<=6) (l6:A.av.bD.ls.length+jS A.bE.ls a.ag.ls t.ai.ls<=80000/\A.av.aL.ls.length<=1000/\d.xM.ls.length<=4000) (hr:ed A a d t=(r0,r1,r2,r3)):
    Calls Tryz.prog 84 #[vP g0 0] w (dI λ v w'=> ∃ dR dS bU dU dV dW dX bY dY dZ bZ d9 ek cz,v=vI r0/\Own w D w' [blk g0 [vP x 0, .slice dR r1.av.bD.ls.length dS, .slice O A.av.aL.ls.length J, .bool A.av.bU, .slice dU r1.bE.ls.length dV] 92,row dR r1.av.bD.ls.length dS (q2 bV.cells bU) 47 21,sepL (q2 IR bU),jv dU r1.bE.ls.length dV (q2 dB.cells r1.bE.ls) 216 2,blk x (kB a B a.aa.ah.ls.length C dW r2.aa.ak.ls.length dX E a.aa.af.ls.length F a.aa.bi j dY r2.ag.ls.length dZ l) 80,row dW r2.aa.ak.ls.length dX (q2 bf.cells bY) 60 2,sepL (q2 IK bY),row dY r2.ag.ls.length dZ (q2 aP.cells bZ) 99 4,sepL (q2 IA bZ),blk j [.slice s d.xM.ls.length r] 27,blk l [.slice d9 r3.ai.ls.length ek] 114,row d9 r3.ai.ls.length ek (q2 ay.cells cz) 164 6,sepL (q2 Iy cz)]/\(s1 bV.abs bU=r1.av.bD.ls)/\(s1 bf.abs bY=r2.aa.ak.ls)/\(s1 aP.abs bZ=r2.ag.ls)/\(s1 ay.abs cz=r3.ai.ls)):=by
 have jC:=aY dP
 have iK:=aY bz
 have iL:=aY bC
 have fQ:=aY aJ
 have jH:=zr 1 H
 have jI:=H.rowCQ (i:=3) rfl
 have iM:=zr 5 H
 have iO:=zr 7 H
 refine cb Tryz.func84 ?_
 refine sr (An rfl (H7 (bo ?_)))
 have jJ:=H.pf [0,4,9,10]
 obtain⟨jK,bD⟩:=FV λ W (X:Nat) T I av (Y:Nat) g P (Q:Nat) U z G (N:Nat) L h Z (aa:Nat) V u (eu:Nat) w'=>Own w D w' [blk g0 [vP x 0, .slice W I.length X, .slice O A.av.aL.ls.length J, .bool A.av.bU, .slice av g.length Y] 92,blk x (kB a B a.aa.ah.ls.length C P z.length Q E a.aa.af.ls.length F a.aa.bi j G h.length N l) 80,blk j [.slice s d.xM.ls.length r] 27,blk l [.slice Z u.length aa] 114,row W I.length X (q2 bV.cells T) 47 21,sepL (q2 IR T),jv av g.length Y (q2 dB.cells g) 216 2,row P z.length Q (q2 bf.cells U) 60 2,sepL (q2 IK U),row G h.length N (q2 aP.cells L) 99 4,sepL (q2 IA L),row Z u.length aa (q2 ay.cells V) 164 6,sepL (q2 Iy V)]/\s1 bV.abs T=I/\s1 bf.abs U=z/\s1 aP.abs L=h/\s1 ay.abs V=u/\Gt h/\Tk h z u/\Li g u/\I.length+jS g h u<=80000/\jS g h u < eu/\fE A a d ((jS A.bE.ls a.ag.ls t.ai.ls)+1) A.av.bD.ls A.bE.ls a.aa.ak.ls a.ag.ls t.ai.ls=fE A a d eu I g z h u
 refine Wp.loop (λ i:(Option Addr) × Nat × (List bV) × (List dL) × (Option Addr) × Nat × (List dB) × (Option Addr) × Nat × (List bf) × (List dA) × (Option Addr) × Nat × (List aP) × (List bB) × (Option Addr) × Nat × (List ay) × (List aM) × Nat=> [(2,vI 0),(0,vP g0 0)]) jK (λ i=>i.2.2.2.2.2.2.2.2.2.2.2.2.2.2.2.2.2.2.2) (dJ,dM,dx,A.av.bD.ls,dN,dO,A.bE.ls,aT,aU,aG,a.aa.ak.ls,aV,aZ,aH,a.ag.ls,ak,au,S,t.ai.ls,(jS A.bE.ls a.ag.ls t.ai.ls)+1) ⟨rfl,rfl,trivial⟩ (bD.2 ⟨jJ,by exact dP,by exact bz,by exact bC,by exact aJ,f6,f6,f6,e8,e8,rfl⟩) ?_
 rintro ⟨W,X,T,I,av,Y,g,P,Q,U,z,G,N,L,h,Z,aa,V,u,eu⟩ l7 iP
 show Wp _ _ _ [(2,vI 0),(0,vP g0 0)] _ _
 obtain⟨cB,bE,bF,aB,bG,kX,kY,kZ,lc,lg,aL⟩:=bD.1 iP
 have lh:=aY bE
 have ll:=aY bF
 have lm:=aY aB
 have lq:=aY bG
 obtain⟨bg,iQ⟩:∃ q,eu=q+1:=⟨eu - 1,e8⟩
 subst iQ
 refine H7 (sr (Mz rfl (Kz (vP g0 0) (Kz (vP g0 4) (Lz (.slice av g.length Y) cB 0 T3 (Kz (vJ g.length) (Kz (.bool (decide ((g.length:Int) > 0))) (nt ?_))))))))
 by_cases bJ:(g.length:Int) > 0
 refine jT (dT bJ) (sk (bo (sr (Mz rfl (Kz (vP g0 0) (Kz (vP g0 4) (Lz (.slice av g.length Y) cB 0 T3 ?_)))))))
 obtain⟨K,ah⟩:=dG (ls:=g) (i:=0) dB.len f5 (cB.rdsQ (i:=6) rfl) f2
 have lu:u.length<=6:=Tk.rows (ws:=h) (hs:=z) f6
 have lv:h.length+z.length<=6:=Tk.n (rs:=u) f6
 have lC:g.length<=jS g h u:=Nat.le_add_left _ _
 refine fw (.pointer (some ⟨ab av,ao av+0 *2,none⟩)) (Im (CU) rfl rfl ((cB.rdsQ (i:=6) rfl).addr (i:=0) e8) e8) (fw (.agg (dB.cells K).toArray) (Il rfl (Io (cs:=(dB.cells K)) Tryz.isAgg216 Tryz.sizeOf216 ((cB.rdsQ (i:=6) rfl).elem dB.len ah f5))) ?_)
 refine bW [.int .u64 0, .bool false] 216 cB ?_
 intro bi l8 jL
 refine cu (dB.cells K) 0 jL Tryz.sizeOf216 ?_
 intro l9 iR
 refine ns (Mz rfl (Mz rfl (Kz (vP g0 0) (Kz (vP g0 4) (Lz (.slice av g.length Y) iR 1 T3 (fw (.slice (eO av 1 2 Y) (g.length - 1) (Y - 1)) (II (CU) rfl rfl e8) (Kz (vP g0 0) (Kz (vP g0 4) ?_))))))))
 have jM:=iR.pf [1]
 refine cu [.slice (eO av 1 2 Y) (g.length - 1) (Y - 1)] 4 jM Tryz.sizeOf90 ?_
 intro iT jN
 have jO:=jN.pf [7]
 have iU:q7 (s0 1 g)=g.length - 1:=m9
 have jP:Own w D iT [jv (eO av 1 2 Y) (g.length - 1) (Y - 1) (q2 dB.cells (s0 1 g)) 216 2,blk g0 [vP x 0, .slice W I.length X, .slice O A.av.aL.ls.length J, .bool A.av.bU, .slice (eO av 1 2 Y) (g.length - 1) (Y - 1)] 92,blk bi (dB.cells K) 216,blk x (kB a B a.aa.ah.ls.length C P z.length Q E a.aa.af.ls.length F a.aa.bi j G h.length N l) 80,blk j [.slice s d.xM.ls.length r] 27,blk l [.slice Z u.length aa] 114,row W I.length X (q2 bV.cells T) 47 21,sepL (q2 IR T),row P z.length Q (q2 bf.cells U) 60 2,sepL (q2 IK U),row G h.length N (q2 aP.cells L) 99 4,sepL (q2 IA L),row Z u.length aa (q2 ay.cells V) 164 6,sepL (q2 Iy V)]:=KG jO e8 (rX dB.len _ _)
 obtain⟨bK,bM,eB⟩:∃ A9 c9,Own w D iT [jv A9 (q7 (s0 1 g)) c9 (q2 dB.cells (s0 1 g)) 216 2,blk g0 [vP x 0, .slice W I.length X, .slice O A.av.aL.ls.length J, .bool A.av.bU, .slice A9 (q7 (s0 1 g)) c9] 92,blk bi (dB.cells K) 216,blk x (kB a B a.aa.ah.ls.length C P z.length Q E a.aa.af.ls.length F a.aa.bi j G h.length N l) 80,blk j [.slice s d.xM.ls.length r] 27,blk l [.slice Z u.length aa] 114,row W I.length X (q2 bV.cells T) 47 21,sepL (q2 IR T),row P z.length Q (q2 bf.cells U) 60 2,sepL (q2 IK U),row G h.length N (q2 aP.cells L) 99 4,sepL (q2 IA L),row Z u.length aa (q2 ay.cells V) 164 6,sepL (q2 Iy V)]:=⟨_,_,by rw [iU]; exact jP⟩
 have lG:=eB.rowCQ (i:=0) rfl
 refine nt (H7 (sr (Kz (vP bi 1) (Lz (.bool K.dE) eB 2 Tryz.isAgg4 (nt ?_)))))
 rcases Lr (K.dE) with bn | bn
 refine jT bn (sr (Mz rfl (Kz (vP bi 0) (Lz (vU K.au) eB 2 E1 ?_))))
 have jQ:=eB.pf [1,6,7,3,10,11]
 obtain⟨⟨iq,eD⟩,eG⟩:∃ q:bI × ax,jg (bI.mk (dH.mk (F2 I) (F2 A.av.aL.ls) A.av.bU) (F2 (s0 1 g))) K.au (ax.mk (bA.mk a.aa.bC a.aa.aQ a.aa.bq a.aa.aJ a.aa.aD (F2 a.aa.ah.ls) (F2 z) (F2 a.aa.af.ls) a.aa.bi a.aa.aI a.aa.aH a.aa.aC) (F2 h))=q:=⟨_,rfl⟩
 obtain⟨ma,iV,lH,iW,lI⟩:=Je jQ
 refine cl Tryz.call138 (ui _ _ g0 (bI.mk (dH.mk (F2 I) (F2 A.av.aL.ls) A.av.bU) (F2 (s0 1 g))) W X T O J bK bM K.au x (ax.mk (bA.mk a.aa.bC a.aa.aQ a.aa.bq a.aa.aJ a.aa.aD (F2 a.aa.ah.ls) (F2 z) (F2 a.aa.af.ls) a.aa.bi a.aa.aI a.aa.aH a.aa.aC) (F2 h)) B C P Q E F G N L j l iq eD iV bE aB f0 eG) ?_
 rintro _ mf ⟨jR,jU,iX,iY,iZ,ja,rfl,jb,eP,eQ,eT⟩
 have iw:=iW _ _ jb
 have jV:=aY eP
 have jW:=aY eQ
 have jX:=zr 1 iw
 have jY:=zr 4 iw
 replace eT:iq.av.bD.ls.length=I.length+1:=eT
 obtain⟨eU,eX,eY,eZ⟩:=xZ (m:=(ax.mk (bA.mk a.aa.bC a.aa.aQ a.aa.bq a.aa.aJ a.aa.aD (F2 a.aa.ah.ls) (F2 z) (F2 a.aa.af.ls) a.aa.bi a.aa.aI a.aa.aH a.aa.aC) (F2 h))) (line:=g) f6 f6 f6 ah bn eG
 replace eU:Tk eD.ag.ls z u:=eU
 replace eX:Gt eD.ag.ls:=eX
 replace eY:Li (s0 1 g) u:=eY
 replace eZ:jS (s0 1 g) eD.ag.ls u+1<=jS g h u:=eZ
 refine nt (Wp.exit (Ip (Iz ?_)))
 have jc:=iw.px [0,3,8,9] [7] [4,5,12,13]
 exact Iq (jR,jU,iX,iq.av.bD.ls,bK,bM,(s0 1 g),P,Q,U,z,iY,iZ,ja,eD.ag.ls,Z,aa,V,u,bg) ⟨rfl,rfl,trivial⟩ (bD.2 ⟨jc,by exact eP,by exact bF,by exact eQ,by exact bG,f6,f6,f6,e8,e8,et (aL) (et (ip bJ) (et (ae (bu ah)) (et (ip bn) (ae eG))))⟩) (by show bg < bg+1; omega)
 refine jF bn (sk (H7 (H7 ?_)))
 refine mJ 14 [] (Ik (Ik (bH.block (Ik (bH.block (Ik Iw)))))) eB ?_
 intro lK jd
 refine qv 0 rfl rfl (qp g0 0 1 rfl (qp g0 0 2 rfl (ql 3 rfl 1 Tryz.isAgg28 rfl rfl rfl (qp bi 0 4 rfl (ql 5 rfl 2 E1 rfl rfl rfl ?_)))))
 have dz:=jd.pf [3]
 have jZ:=zr 10 dz
 obtain⟨⟨p,aN⟩,af⟩:∃ q:Int × Bool,bX (ax.mk (bA.mk a.aa.bC a.aa.aQ a.aa.bq a.aa.aJ a.aa.aD (F2 a.aa.ah.ls) (F2 z) (F2 a.aa.af.ls) a.aa.bi a.aa.aI a.aa.aH a.aa.aC) (F2 h)) K.au=q:=⟨_,rfl⟩
 obtain⟨lL,iy,j3,iA,cK⟩:=IE dz
 refine qd 6 rfl (IB Tryz.call79 rfl (je _ _ x (ax.mk (bA.mk a.aa.bC a.aa.aQ a.aa.bq a.aa.aJ a.aa.aD (F2 a.aa.ah.ls) (F2 z) (F2 a.aa.af.ls) a.aa.bi a.aa.aI a.aa.aH a.aa.aC) (F2 h)) B C P Q E F G N L j l K.au p aN iy aB (cK _ 9 _ rfl bP) e8 (λ x9 h9=>⟨cK _ 10 _ rfl (bL (O3.2 ⟨x9,h9,b3⟩) bP),dC (φ:=λ _=>_) dz (i:=11) rfl (bL (O3.2 ⟨x9,h9,b3⟩) dK),cK _ 10 _ rfl (bL (O3.2 ⟨x9,h9, .tail _ b3⟩) bP),dC (φ:=λ _=>_) dz (i:=11) rfl (bL (O3.2 ⟨x9,h9, .tail _ b3⟩) dK)⟩) f0 af) ?_)
 rintro _ lM ⟨rfl,iB,fe,fo⟩
 have jf:=iA _ _ iB
 replace fe:0<=p/\p<=(h.length:Int):=fe
 replace fo:Bool.toNat aN=0\/p < (h.length:Int):=fo
 have M:=jf.pf [1,2,3]
 refine⟨.inr ⟨_,M⟩, ?_⟩
 refine qv 7 rfl rfl (qk (vI p) 8 rfl (qk (.bool aN) 9 rfl (qa 10 rfl rfl (qa 11 rfl rfl (qn (Ib (sr (Mn rfl ?_))))))))
 rcases Lr (aN) with R | R
 have h144t:Bool.toNat aN=1:=by rw [R]; rfl
 refine jT R (H8 (Mz rfl (Kz (vP g0 0) (Kz (vP g0 0) (Lz (vP x 0) M 1 Tryz.isAgg28 (Kz (vP x 0) (Kz (vP x 18) (Lz (.slice G h.length N) M 3 Tryz.isAgg77 (fw (vJ (G0 p)) (Ig (e:=p) (Ie rfl) e8) ?_)))))))))
 obtain⟨b,ag⟩:=dG (ls:=L) (i:=G0 p) aP.len f5 (M.rds (i:=10) rfl) f2
 have aA:=fO aB ag
 have j4:b.cz.ls.length<=b.cz.c/\b.cz.ls.length<=9223372036854775807:=dC M (i:=11) rfl (φ:=λ _=>_) (bL (O3.2 ⟨b,D4 ag,b3⟩) dK)
 have j5:b.bJ.ls.length<=b.bJ.c/\b.bJ.ls.length<=9223372036854775807:=dC M (i:=11) rfl (φ:=λ _=>_) (bL (O3.2 ⟨b,D4 ag, .tail _ b3⟩) dK)
 obtain⟨kg,ko,kr⟩:(0<=b.aS/\b.aS<=(b.bJ.ls.length:Int))/\b.cz.ls.length<=24/\b.bJ.ls.length<=24:=Tk.wat (ws:=h) f6 aA
 have ku:b.aS < (b.bJ.ls.length:Int):=Gt.wat (ws:=h) f6 aA
 refine fw (.pointer (some ⟨ab G,ao G+(G0 p) *4,none⟩)) (Im (lJ) rfl rfl ((M.rds (i:=10) rfl).addr (i:=G0 p) e8) e8) (Kz (.pointer (some ⟨ab G,ao G+(G0 p) *4+3,none⟩)) (fw (vI b.aS) (Il rfl (bQ.one Tryz.isAgg3 (((M.rds (i:=10) rfl).elem aP.len ag f5).at_ (k:=3) rfl))) (fw (vI (b.aS+1)) (Ig (e:=IntKind.i64.wrap (b.aS+1)) yk i5) (fw (.pointer (some ⟨ab G,ao G+(G0 p) *4,none⟩)) (Im (lJ) rfl rfl ((M.rds (i:=10) rfl).addr (i:=G0 p) e8) e8) (Kz (.pointer (some ⟨ab G,ao G+(G0 p) *4+3,none⟩)) ?_)))))
 have jh:=M.pf [10]
 refine I5 (Do.storeRow (vs:= [vI (b.aS+1)]) (o:=(G0 p) *4+3) (q:=ao G+(G0 p) *4+3) jh rfl e8 rfl Tryz.sizeOf3 rfl rfl (Lh rfl) (jA aP.len ag (Lh rfl)) (j6 (y:=(aP.mk b.au b.cz b.bJ (b.aS+1))) aP.len rfl (Lh rfl) ag) ?_)
 intro fT ji
 have fq:Own w D fT [row G h.length N (q2 aP.cells (L6 L (G0 p) (aP.mk b.au b.cz b.bJ (b.aS+1)))) 99 4,jv bK (q7 (s0 1 g)) bM (q2 dB.cells (s0 1 g)) 216 2,blk g0 [vP x 0, .slice W I.length X, .slice O A.av.aL.ls.length J, .bool A.av.bU, .slice bK (q7 (s0 1 g)) bM] 92,blk bi (dB.cells K) 216,blk x (kB a B a.aa.ah.ls.length C P z.length Q E a.aa.af.ls.length F a.aa.bi j G h.length N l) 80,blk j [.slice s d.xM.ls.length r] 27,blk l [.slice Z u.length aa] 114,row W I.length X (q2 bV.cells T) 47 21,sepL (q2 IR T),row P z.length Q (q2 bf.cells U) 60 2,sepL (q2 IK U),sepL (q2 IA (L6 L (G0 p) (aP.mk b.au b.cz b.bJ (b.aS+1)))),row Z u.length aa (q2 ay.cells V) 164 6,sepL (q2 Iy V)]:=by rw [lU (f:=IA) (y:=(aP.mk b.au b.cz b.bJ (b.aS+1))) ag rfl]; exact ji
 have kv:q7 (L6 L (G0 p) (aP.mk b.au b.cz b.bJ (b.aS+1)))=q7 (L6 h (G0 p) (bB.mk b.au (F2 b.cz.ls) (F2 b.bJ.ls) (b.aS+1))):=aY (eH aB rfl)
 have kw:q7 (L6 h (G0 p) (bB.mk b.au (F2 b.cz.ls) (F2 b.bJ.ls) (b.aS+1)))=h.length:=L7
 refine ns (Mz rfl (Kz (vP bi 0) (Lz (vU K.au) fq 3 E1 ?_)))
 have ky:Tk (L6 h (G0 p) (bB.mk b.au (F2 b.cz.ls) (F2 b.bJ.ls) (b.aS+1))) z u:=Tk.bump f6 aA rfl rfl rfl (show (0:Int)<=b.aS+1/\b.aS+1<=(b.bJ.ls.length:Int) from by omega)
 have aK:h.length=q7 (L6 h (G0 p) (bB.mk b.au (F2 b.cz.ls) (F2 b.bJ.ls) (b.aS+1))):=by first | omega | (simp only [L7]; done) | (simp only [L7,List.length_append,List.length_cons,List.length_nil,List.length_take,m9,List.length_replicate]; omega)
 have jk:Own w D fT [row G (q7 (L6 h (G0 p) (bB.mk b.au (F2 b.cz.ls) (F2 b.bJ.ls) (b.aS+1)))) N (q2 aP.cells (L6 L (G0 p) (aP.mk b.au b.cz b.bJ (b.aS+1)))) 99 4,jv bK (q7 (s0 1 g)) bM (q2 dB.cells (s0 1 g)) 216 2,blk g0 [vP x 0, .slice W I.length X, .slice O A.av.aL.ls.length J, .bool A.av.bU, .slice bK (q7 (s0 1 g)) bM] 92,blk bi (dB.cells K) 216,blk x (kB a B a.aa.ah.ls.length C P z.length Q E a.aa.af.ls.length F a.aa.bi j G (q7 (L6 h (G0 p) (bB.mk b.au (F2 b.cz.ls) (F2 b.bJ.ls) (b.aS+1)))) N l) 80,blk j [.slice s d.xM.ls.length r] 27,blk l [.slice Z u.length aa] 114,row W I.length X (q2 bV.cells T) 47 21,sepL (q2 IR T),row P z.length Q (q2 bf.cells U) 60 2,sepL (q2 IK U),sepL (q2 IA (L6 L (G0 p) (aP.mk b.au b.cz b.bJ (b.aS+1)))),row Z u.length aa (q2 ay.cells V) 164 6,sepL (q2 Iy V)]:=by first | (rw [<- aK]; exact fq) | (have q9:=fq; rw [aK] at q9; exact q9)
 have jl:=jk.px [2,7,8] [] [0,11,5,6,12,13,3]
 obtain⟨⟨bS,aC,ai,aO⟩,bq⟩:∃ q:Int × bI × ax × aW,fH (bI.mk (dH.mk (F2 I) (F2 A.av.aL.ls) A.av.bU) (F2 (s0 1 g))) K.au (ax.mk (bA.mk a.aa.bC a.aa.aQ a.aa.bq a.aa.aJ a.aa.aD (F2 a.aa.ah.ls) (F2 z) (F2 a.aa.af.ls) a.aa.bi a.aa.aI a.aa.aH a.aa.aC) (F2 (L6 h (G0 p) (bB.mk b.au (F2 b.cz.ls) (F2 b.bJ.ls) (b.aS+1))))) d (aW.mk (F2 u))=q:=⟨_,rfl⟩
 obtain⟨lQ,iC,fu,iD,kz⟩:=Jk jl
 refine cl Tryz.call83 (qc _ _ g0 (bI.mk (dH.mk (F2 I) (F2 A.av.aL.ls) A.av.bU) (F2 (s0 1 g))) W X T O J bK bM K.au x (ax.mk (bA.mk a.aa.bC a.aa.aQ a.aa.bq a.aa.aJ a.aa.aD (F2 a.aa.ah.ls) (F2 z) (F2 a.aa.af.ls) a.aa.bi a.aa.aI a.aa.aH a.aa.aC) (F2 (L6 h (G0 p) (bB.mk b.au (F2 b.cz.ls) (F2 b.bJ.ls) (b.aS+1))))) B C P Q U E F G N (L6 L (G0 p) (aP.mk b.au b.cz b.bJ (b.aS+1))) j d s r l (aW.mk (F2 u)) Z aa V bS aC ai aO iC bE (fu _ dQ) e8 bF (eH aB rfl) (fu _ aI) e8 bG f6 (by first | omega | exact Tk.n f6) (by first | omega | exact Tk.rows f6) f0 bq) ?_
 rintro _ lS ⟨fU,fV,fZ,gm,gp,gq,gu,gy,gz,gB,gD,gF,gG,gI,rfl,iE,cO,cZ,df,dh⟩
 have aQ:=iD _ _ iE
 have kC:=aY cO
 have kD:=aY cZ
 have kE:=aY df
 have kF:=aY dh
 have kG:=zr 1 aQ
 have kH:=aQ.rowCQ (i:=3) rfl
 have kI:=zr 5 aQ
 have kJ:=zr 7 aQ
 have kK:=zr 11 aQ
 obtain⟨fA,fB,fC,fD,fF⟩:=zB (m:=(ax.mk (bA.mk a.aa.bC a.aa.aQ a.aa.bq a.aa.aJ a.aa.aD (F2 a.aa.ah.ls) (F2 z) (F2 a.aa.af.ls) a.aa.bi a.aa.aI a.aa.aH a.aa.aC) (F2 h))) (tb:=(aW.mk (F2 u))) (line:=g) f6 f6 f6 ah (af.trans (congrArg (λ q=>(_,q)) R)) aA rfl rfl bq
 replace fA:Tk ai.ag.ls ai.aa.ak.ls aO.ai.ls:=fA
 replace fB:Gt ai.ag.ls:=fB
 replace fC:Li aC.bE.ls aO.ai.ls:=fC
 replace fD:jS aC.bE.ls ai.ag.ls aO.ai.ls+1<=jS g h u:=fD
 replace fF:aC.av.bD.ls.length<=I.length+1:=fF
 refine An rfl (H7 ?_)
 have gJ:=aQ.px [] [13] []
 refine H8 (Mz rfl (fw (.bool (decide (¬ (bS=0)))) (Iu (e:= !(decide (bS=0))) yk decide_not.symm) (nt ?_)))
 by_cases dD:bS=0
 refine jF (dF (Lp dD)) (IG (bN ?_))
 have jm:=gJ.pf [0,4,9,10]
 exact Iq (fU,fV,fZ,aC.av.bD.ls,gm,gp,aC.bE.ls,gq,gu,gy,ai.aa.ak.ls,gz,gB,gD,ai.ag.ls,gF,gG,gI,aO.ai.ls,bg) ⟨rfl,rfl,trivial⟩ (bD.2 ⟨jm,by exact cO,by exact cZ,by exact df,by exact dh,f6,f6,f6,e8,e8,et (aL) (et (ip bJ) (et (ae (bu ah)) (et (eF bn) (et (ae af) (et (ip R) (et (ae (bu aA)) (et (ae bq) (ip dD))))))))⟩) (by show bg < bg+1; omega)
 refine jT (dT dD) (sr (Mz rfl (An rfl (rt (bR (tR (bR (tR (rs ?_)))))))))
 have jo:=gJ.pf []
 obtain⟨rfl,rfl,rfl,rfl⟩:=gH (zj hr (show _=(bS,bI.mk (dH.mk (F2 aC.av.bD.ls) (F2 A.av.aL.ls) A.av.bU) (F2 aC.bE.ls),ax.mk (bA.mk a.aa.bC a.aa.aQ a.aa.bq a.aa.aJ a.aa.aD (F2 a.aa.ah.ls) (F2 ai.aa.ak.ls) (F2 a.aa.af.ls) a.aa.bi a.aa.aI a.aa.aH a.aa.aC) (F2 ai.ag.ls),aO) from iG (et (aL) (et (ip bJ) (et (ae (bu ah)) (et (eF bn) (et (ae af) (et (ip R) (et (ae (bu aA)) (et (ae bq) (iN dD)))))))))))
 exact⟨fU,fV,fZ,gm,gp,gq,gu,gy,gz,gB,gD,gF,gG,gI,(by first | rfl | (rw [<- aK]; done) | (rw [<- aK]; rfl) | (rw [aK]; first | done | rfl)),jo,cO,cZ,df,dh⟩
 have h144t:Bool.toNat aN=0:=by rw [R]; rfl
 refine jF R (sk (sr (Mz rfl (Kz (vP bi 0) (Lz (vU K.au) M 2 E1 ?_)))))
 have jq:=M.px [1,6,7] [] [4,5,12,13,2]
 obtain⟨⟨bT,aD,aj,aR⟩,bv⟩:∃ q:Int × bI × ax × aW,fH (bI.mk (dH.mk (F2 I) (F2 A.av.aL.ls) A.av.bU) (F2 (s0 1 g))) K.au (ax.mk (bA.mk a.aa.bC a.aa.aQ a.aa.bq a.aa.aJ a.aa.aD (F2 a.aa.ah.ls) (F2 z) (F2 a.aa.af.ls) a.aa.bi a.aa.aI a.aa.aH a.aa.aC) (F2 h)) d (aW.mk (F2 u))=q:=⟨_,rfl⟩
 obtain⟨lT,iF,fG,iH,kL⟩:=Jk jq
 refine cl Tryz.call83 (qc _ _ g0 (bI.mk (dH.mk (F2 I) (F2 A.av.aL.ls) A.av.bU) (F2 (s0 1 g))) W X T O J bK bM K.au x (ax.mk (bA.mk a.aa.bC a.aa.aQ a.aa.bq a.aa.aJ a.aa.aD (F2 a.aa.ah.ls) (F2 z) (F2 a.aa.af.ls) a.aa.bi a.aa.aI a.aa.aH a.aa.aC) (F2 h)) B C P Q U E F G N L j d s r l (aW.mk (F2 u)) Z aa V bT aD aj aR iF bE (fG _ dQ) e8 bF aB (fG _ aI) e8 bG f6 (by first | omega | exact Tk.n f6) (by first | omega | exact Tk.rows f6) f0 bv) ?_
 rintro _ lV ⟨gK,gL,gM,gN,gP,gQ,gT,gU,gV,gW,gX,gY,gZ,ib,rfl,iI,di,dm,dn,dw⟩
 have aS:=iH _ _ iI
 have kM:=aY di
 have kN:=aY dm
 have kP:=aY dn
 have kQ:=aY dw
 have kR:=zr 1 aS
 have kS:=aS.rowCQ (i:=3) rfl
 have kT:=zr 5 aS
 have kU:=zr 7 aS
 have kV:=zr 11 aS
 obtain⟨fI,fJ,fK,fM,fP⟩:=zC (m:=(ax.mk (bA.mk a.aa.bC a.aa.aQ a.aa.bq a.aa.aJ a.aa.aD (F2 a.aa.ah.ls) (F2 z) (F2 a.aa.af.ls) a.aa.bi a.aa.aI a.aa.aH a.aa.aC) (F2 h))) (tb:=(aW.mk (F2 u))) (line:=g) f6 f6 f6 ah af (by rw [R]; decide) rfl bv
 replace fI:Tk aj.ag.ls aj.aa.ak.ls aR.ai.ls:=fI
 replace fJ:Gt aj.ag.ls:=fJ
 replace fK:Li aD.bE.ls aR.ai.ls:=fK
 replace fM:jS aD.bE.ls aj.ag.ls aR.ai.ls+1<=jS g h u:=fM
 replace fP:aD.av.bD.ls.length<=I.length+1:=fP
 refine An rfl (H7 ?_)
 have ic:=aS.px [] [13] []
 refine H8 (Mz rfl (fw (.bool (decide (¬ (bT=0)))) (Iu (e:= !(decide (bT=0))) yk decide_not.symm) (nt ?_)))
 by_cases dE:bT=0
 refine jF (dF (Lp dE)) (IG (bN ?_))
 have jr:=ic.pf [0,4,9,10]
 exact Iq (gK,gL,gM,aD.av.bD.ls,gN,gP,aD.bE.ls,gQ,gT,gU,aj.aa.ak.ls,gV,gW,gX,aj.ag.ls,gY,gZ,ib,aR.ai.ls,bg) ⟨rfl,rfl,trivial⟩ (bD.2 ⟨jr,by exact di,by exact dm,by exact dn,by exact dw,f6,f6,f6,e8,e8,et (aL) (et (ip bJ) (et (ae (bu ah)) (et (eF bn) (et (ae af) (et (eF R) (et (ae bv) (ip dE)))))))⟩) (by show bg < bg+1; omega)
 refine jT (dT dE) (sr (Mz rfl (An rfl (rt (bR (tR (bR (tR (rs ?_)))))))))
 have jw:=ic.pf []
 obtain⟨rfl,rfl,rfl,rfl⟩:=gH (zj hr (show _=(bT,bI.mk (dH.mk (F2 aD.av.bD.ls) (F2 A.av.aL.ls) A.av.bU) (F2 aD.bE.ls),ax.mk (bA.mk a.aa.bC a.aa.aQ a.aa.bq a.aa.aJ a.aa.aD (F2 a.aa.ah.ls) (F2 aj.aa.ak.ls) (F2 a.aa.af.ls) a.aa.bi a.aa.aI a.aa.aH a.aa.aC) (F2 aj.ag.ls),aR) from iG (et (aL) (et (ip bJ) (et (ae (bu ah)) (et (eF bn) (et (ae af) (et (eF R) (et (ae bv) (iN dE))))))))))
 exact⟨gK,gL,gM,gN,gP,gQ,gT,gU,gV,gW,gX,gY,gZ,ib,rfl,jw,di,dm,dn,dw⟩
 refine jF (dF bJ) (Wp.exit (Ip ?_))
 have iJ:fE A a d ((jS A.bE.ls a.ag.ls t.ai.ls)+1) A.av.bD.ls A.bE.ls a.aa.ak.ls a.ag.ls t.ai.ls=Sum.inl (I,g,z,h,u):=et (aL) (iN bJ)
 refine Ip (Iz (Ib (sr (An rfl (rt (rs ?_))))))
 have jy:=cB.px [0,4,5,6] [] [2,3,11,12]
 obtain⟨rfl,rfl,rfl,rfl⟩:=gH (zj hr (show _=(0,bI.mk (dH.mk (F2 I) (F2 A.av.aL.ls) A.av.bU) (F2 g),ax.mk (bA.mk a.aa.bC a.aa.aQ a.aa.bq a.aa.aJ a.aa.aD (F2 a.aa.ah.ls) (F2 z) (F2 a.aa.af.ls) a.aa.bi a.aa.aI a.aa.aH a.aa.aC) (F2 h),aW.mk (F2 u)) from lw iJ))
 exact⟨W,X,T,av,Y,P,Q,U,G,N,L,Z,aa,V,rfl,jy,bE,bF,aB,bG⟩
end
open List renaming length_filter_le->P3
open Nat renaming le_of_lt_succ->T5,lt_of_lt_of_le->T4
structure Gc (p:bI) (m:ax) (t:bI) (m':ax) (tb':aW):Prop where
  tk:Tk m'.ag.ls m'.aa.ak.ls tb'.ai.ls
  gt:Gt m'.ag.ls
  tx:∀ n,Tx m'.ag.ls m'.aa.ak.ls n->Tx m.ag.ls m.aa.ak.ls n
  wr:t.av.aL=p.av.aL
  st:m'.aa= { m.aa with ak:=m'.aa.ak }
theorem Fx {k:Nat} {ws:List bB} {hs:List dA} {n:Nat} (h:Tx (qE k ws) hs n):Tx ws hs n:=by
  rcases h with ⟨w,hw,e⟩ | h
  . exact .inl ⟨w,(P0.1 hw).1,e⟩
  . exact .inr h
theorem Ea (p:bI) (m:ax) (s:StoreT):∀ (q:Nat) (o:List dL) (l:List dB) (hs:List dA) (ws:List bB) (rs:List aM),Tk ws hs rs->Gt ws->Li l rs->jS l ws rs < q->
    (∀ n,Tx ws hs n->Tx m.ag.ls m.aa.ak.ls n)->
    (∀ o' l' hs' ws' rs',fE p m s q o l hs ws rs= .inl (o',l',hs',ws',rs')->Tk ws' hs' rs'/\Gt ws'/\(∀ n,Tx ws' hs' n->Tx m.ag.ls m.aa.ak.ls n))/\
    (∀ e t m' tb',fE p m s q o l hs ws rs= .inr (e,t,m',tb')->Gc p m t m' tb'):=by
  intro q
  induction q with
  | zero=>intro o l hs ws rs _ _ _ h; omega
  | succ q ih=>
    intro o l hs ws rs hk hg hli hq htx
    rw [fE]
    simp only [bK]
    by_cases B:((q7 l:Nat):Int) > 0
    . rw [if_pos B]
      obtain⟨f,hf⟩:∃ f,l[0]? =some f:=⟨_,List.getElem?_eq_getElem e8⟩
      rw [bu hf]
      by_cases u:f.dE=true
      . rw [if_pos u]
        generalize hd:jg _ _ _=v
        obtain⟨C,a⟩:=v
        obtain⟨c,d,j,k⟩:=xZ hk hg hli hf u hd
        have g:∀ n,Tx a.ag.ls hs n->Tx m.ag.ls m.aa.ak.ls n:=λ n hn=>htx n (by
          unfold jg at hd
          rw [bK,sw hk.wu] at hd
          obtain⟨_,rfl⟩:=fB hd
          exact Fx hn)
        exact ih _ _ _ _ _ c d j (T4 k (T5 hq)) g
      . rw [if_neg u]
        generalize hfd:bX _ _=D
        obtain⟨i,b⟩:=D
        cases b with
        | true=>
          simp only [if_true]
          have hw:=pG hk.wu hfd
          obtain⟨x,hx,hxt⟩:=hw
          have hx':ws[G0 i]? =some x:=hx
          have hgx:=hg.wat hx'
          rw [bu hx']
          generalize hgo:fH _ _ _ _ _=v
          obtain⟨w,C,a,z⟩:=v
          obtain⟨c,d,j,k,_⟩:=zB (tb:=aW.mk (F2 rs)) hk hg hli hf hfd hx rfl rfl hgo
          have hb:=hk.bump (y:=bB.mk x.au (F2 x.cz.ls) (F2 x.bJ.ls) (x.aS+1)) hx' rfl rfl rfl (by have:=hk.wat hx'; exact⟨show (0:Int)<=x.aS+1 by omega,show x.aS+1<=((q7 x.bJ.ls:Nat):Int) by omega⟩)
          have A:=drop1 hf
          rw [A] at hli
          have hG:=(rQ (tb:=aW.mk (F2 rs)) hb hli.tail.1 hli.tail.2 (Gx.set (y:=bB.mk x.au (F2 x.cz.ls) (F2 x.bJ.ls) (x.aS+1)) (hg.gx f.au) hxt) hgo).1
          have g:∀ n,Tx a.ag.ls a.aa.ak.ls n->Tx m.ag.ls m.aa.ak.ls n:=λ n hn=>htx n (D9 (y:=bB.mk x.au (F2 x.cz.ls) (F2 x.bJ.ls) (x.aS+1)) hx' rfl n (hG.tx n hn))
          by_cases r:w=0
          . rw [if_pos r]
            exact ih _ _ _ _ _ c d j (T4 k (T5 hq)) g
          . rw [if_neg r]
            refine⟨λ _ _ _ _ _ h=>(by cases h),λ e t m' tb' h=> ?_⟩
            obtain⟨_,rfl,rfl,rfl⟩:=gH (Sum.inr.inj h)
            exact⟨c,d,g,rfl,rfl⟩
        | false=>
          simp only [Bool.false_eq_true,if_false]
          generalize hgo:fH _ _ _ _ _=v
          obtain⟨w,C,a,z⟩:=v
          obtain⟨c,d,j,k,_⟩:=zC (tb:=aW.mk (F2 rs)) hk hg hli hf hfd f5 rfl hgo
          have A:=drop1 hf
          rw [A] at hli
          have hG:=(rQ (tb:=aW.mk (F2 rs)) hk hli.tail.1 hli.tail.2 (hg.gx f.au) hgo).1
          have g:∀ n,Tx a.ag.ls a.aa.ak.ls n->Tx m.ag.ls m.aa.ak.ls n:=λ n hn=>htx n (hG.tx n hn)
          by_cases r:w=0
          . rw [if_pos r]
            exact ih _ _ _ _ _ c d j (T4 k (T5 hq)) g
          . rw [if_neg r]
            refine⟨λ _ _ _ _ _ h=>(by cases h),λ e t m' tb' h=> ?_⟩
            obtain⟨_,rfl,rfl,rfl⟩:=gH (Sum.inr.inj h)
            exact⟨c,d,g,rfl,rfl⟩
    . rw [if_neg B]
      refine⟨λ o' l' hs' ws' rs' h=> ?_,λ _ _ _ _ h=>(by cases h)⟩
      injection h with h
      obtain⟨_,h⟩:=fB h
      obtain⟨_,rfl,rfl,rfl⟩:=gH h
      exact⟨hk,hg,htx⟩
theorem Eb {p:bI} {m:ax} {s:StoreT} {tb:aW} (hk:Tk m.ag.ls m.aa.ak.ls tb.ai.ls) (hg:Gt m.ag.ls) (hli:Li p.bE.ls tb.ai.ls) {e:Int} {t:bI} {m':ax} {tb':aW} (h:ed p m s tb=(e,t,m',tb')):Gc p m t m' tb':=by
  unfold ed at h
  obtain⟨hl,hr⟩:=Ea p m s (jS p.bE.ls m.ag.ls tb.ai.ls+1) p.av.bD.ls p.bE.ls m.aa.ak.ls m.ag.ls tb.ai.ls hk hg hli (Nat.lt_succ_self _) (λ _ h=>h)
  cases a:fE p m s (jS p.bE.ls m.ag.ls tb.ai.ls+1) p.av.bD.ls p.bE.ls m.aa.ak.ls m.ag.ls tb.ai.ls with
  | inr z=>
    obtain⟨c,d,f,b⟩:=z
    rw [a] at h
    obtain⟨_,rfl,rfl,rfl⟩:=gH (show (c,d,f,b)=(e,t,m',tb') from h)
    exact hr _ _ _ _ a
  | inl z=>
    obtain⟨o,q,g,i,j⟩:=z
    rw [a] at h
    obtain⟨k,l,n⟩:=hl _ _ _ _ _ a
    obtain⟨_,rfl,rfl,rfl⟩:=gH h
    exact⟨k,l,n,rfl,rfl⟩
theorem GH {ws:List bB} {hs:List dA} {rs:List aM} (h:Tk ws hs rs):sg ws<=24 *q7 ws:=by
  have key:∀ l:List bB,(∀ w ∈ l,(0<=w.aS/\w.aS<=((q7 w.bJ.ls:Nat):Int))/\q7 w.cz.ls<=24/\q7 w.bJ.ls<=24)->sg l<=24 *q7 l:=by
    intro l
    induction l with
    | nil=>intro _; exact Nat.le_refl _
    | cons a l ih=>
      intro h
      have b:=h a b3
      have c:=ih λ w hw=>h w (.tail _ hw)
      rw [xk,r5]
      omega
  exact key ws h.gr
theorem Bo {ws:List bB} {hs:List dA} {rs:List aM} (h:Tk ws hs rs) (l:List dB):jS l ws rs<=300+q7 l:=by
  have a:=GH h
  have b:=h.n
  have c:=h.rows
  have d:=yK rs
  unfold jS
  omega
theorem Hu:∀ (l:List aX) (o:List aF) (r:(List aF)),fP l o=r->q7 r<=q7 o+q7 l:=by
  intro l
  induction l with
  | nil=>intro o r h; rw [fP] at h; rw [<- h]; exact Nat.le_refl _
  | cons a l ih=>
    intro o r h
    have key:∀ y:aF,fP l (o++ [y])=r->q7 r<=q7 o+q7 (a::l):=λ y hy=>by
      have:=ih _ _ hy
      simp only [o0,r5,K1] at this ⊢
      omega
    rw [fP] at h
    simp only [bK] at h
    repeat' split at h
    all_goals exact key _ h
theorem wW {l:List aX} {r:List aF} {e:Int} (h:oq l=(r,e)):q7 r<=q7 l:=by
  unfold oq at h
  rw [bK] at h
  split at h
  . rw [bK] at h
    obtain⟨rfl,_⟩:=fB h
    have:=Hu l [] _ rfl
    simpa using this
  . obtain⟨rfl,_⟩:=fB h; exact Lm _
theorem vG {m:ax} {x:dL} {b:Bool} (h:jM m x=b) (hb:b=false) (f:q7 m.aa.ak.ls<=1000) (g:q7 m.ag.ls<=1000) (i:q7 m.aa.af.ls<=1000):
    q7 m.aa.ak.ls+q7 m.ag.ls < 6/\q7 m.aa.ak.ls+q7 m.ag.ls+q7 m.aa.af.ls < 64:=by
  subst hb
  unfold jM at h
  have c:IntKind.i64.wrap (((q7 m.aa.ak.ls:Nat):Int)+((q7 m.ag.ls:Nat):Int))=((q7 m.aa.ak.ls:Nat):Int)+((q7 m.ag.ls:Nat):Int):=Lj _ e8
  have d:IntKind.i64.wrap (((q7 m.aa.ak.ls:Nat):Int)+((q7 m.ag.ls:Nat):Int)+((q7 m.aa.af.ls:Nat):Int))=((q7 m.aa.ak.ls:Nat):Int)+((q7 m.ag.ls:Nat):Int)+((q7 m.aa.af.ls:Nat):Int):=Lj _ e8
  rw [c,d] at h
  by_cases a:((q7 m.aa.ak.ls:Nat):Int)+((q7 m.ag.ls:Nat):Int) >= 6
  . rw [if_pos a] at h; cases h
  . rw [if_neg a] at h
    by_cases e:((q7 m.aa.ak.ls:Nat):Int)+((q7 m.ag.ls:Nat):Int)+((q7 m.aa.af.ls:Nat):Int) >= 64
    . rw [if_pos e] at h; cases h
    . exact⟨e8,e8⟩
theorem Ec {P:Prop} (h:true=false):P:=Bool.noConfusion h
theorem hnot {hs:List dA} (hu:vT hs) {k:Nat} {j:Int} (hf:bG hs k=(j,false)):∀ h ∈ hs,h.aU≠k:=λ z hz e=>by
  rcases sj hu k with ⟨a,p,q,c,hp,ha,hq,h⟩ | ⟨a,q,c,ha,hq,h⟩
  . rw [h] at hf; exact Ec (congrArg Prod.snd hf)
  . rw [c] at hz
    rcases S1.1 hz with b | b
    . have:=ha z b; omega
    . have:=hq z b; omega
theorem EH {ws:List bB} (hu:r9 ws) {k:Nat} {j:Int} (hf:bF ws k=(j,false)):∀ w ∈ ws,w.au≠k:=λ z hz e=>by
  rcases si hu k with ⟨a,p,q,c,hp,ha,hq,h⟩ | ⟨a,q,c,ha,hq,h⟩
  . rw [h] at hf; exact Ec (congrArg Prod.snd hf)
  . rw [c] at hz
    rcases S1.1 hz with b | b
    . have:=ha z b; omega
    . have:=hq z b; omega
theorem Fy {ws:List bB} (hu:r9 ws) {z:bB} {j:Int} {b:Bool} (hf:bF ws z.au=(j,b)) (hn:∀ w ∈ ws,w.au≠z.au):r9 (t6 (G0 j) ws++(z::s0 (G0 j) ws)):=by
  rcases si hu z.au with ⟨a,p,q,c,hp,ha,hq,h⟩ | ⟨a,q,c,ha,hq,h⟩
  . exact absurd hp (hn p (by rw [c]; simp))
  . rw [h] at hf
    have d:j=(a.length:Int):=(congrArg Prod.fst hf).symm
    rw [d,M7,c,u1 rfl,List.drop_left' rfl]
    rw [c] at hu
    obtain⟨f,g,i⟩:=O5.1 hu
    exact O5.2 ⟨f,List.pairwise_cons.2 ⟨hq,g⟩,λ r hr s hs=>by
      rcases List.mem_cons.1 hs with e | e
      . rw [e]; exact ha r hr
      . exact i r hr s e⟩
theorem Bp {m:ax} {rs:List aM} {k:Nat} {i j:Int} {bw bh:Bool} {o:List aX} {l:List aF} (h:Tk m.ag.ls m.aa.ak.ls rs) (hg:Gt m.ag.ls) (hh:d9 m k=(j,bh)) (hb:bh=false) (hw:bX m k=(i,bw)) (hc:bw=false)
    (hn:q7 m.aa.ak.ls+q7 m.ag.ls < 6) (ho:q7 o<=24) (hl:q7 l<=24):
    Tk (t6 (G0 i) m.ag.ls++((bB.mk k (F2 o) (F2 l) 0)::s0 (G0 i) m.ag.ls)) m.aa.ak.ls rs/\Gx k (t6 (G0 i) m.ag.ls++((bB.mk k (F2 o) (F2 l) 0)::s0 (G0 i) m.ag.ls)):=by
  subst hb hc
  rw [hfind] at hh
  rw [Ah] at hw
  have nh:=hnot h.hu hh
  have nw:=EH h.wu hw
  refine⟨⟨Fy (z:=bB.mk k (F2 o) (F2 l) 0) h.wu hw nw,h.hu,λ w hw z hz=> ?_, ?_,λ w hw=> ?_,h.ho,h.snd,λ r hr=> ?_⟩,λ w hw hk=> ?_⟩
  . rcases nz.1 hw with e | e
    . rw [e]; exact(nh z hz).symm
    . exact h.dj w e z hz
  . have a:q7 (t6 (G0 i) m.ag.ls)+q7 (s0 (G0 i) m.ag.ls)=q7 m.ag.ls:=by rw [<- o0,List.take_append_drop]
    rw [o0,r5]; omega
  . rcases nz.1 hw with e | e
    . rw [e]; exact⟨⟨Int.le_refl _,by show (0:Int)<=_; omega⟩,ho,hl⟩
    . exact h.gr w e
  . rcases h.uT r hr with ⟨w,hw,e⟩ | e
    . exact .inl ⟨w,nz.2 (.inr hw),e⟩
    . exact .inr e
  . rcases nz.1 hw with e | e
    . rw [e] at hk; exact absurd rfl hk
    . exact hg w e
def x8 (k:Nat) (l:List dA):List dA:=l.filter λ h=>decide (h.aU≠k)
theorem Ct {hs:List dA} (hu:vT hs) {k:Nat} {j:Int} (hf:bG hs k=(j,true)):t6 (G0 j) hs++s0 (G0 j+1) hs=x8 k hs:=by
  rcases sj hu k with ⟨a,p,q,b,hp,ha,hq,h⟩ | ⟨a,q,b,ha,hq,h⟩
  . rw [h] at hf
    have c:j=(a.length:Int):=(congrArg Prod.fst hf).symm
    have d:a.filter (λ w=>decide (w.aU≠k))=a:=S8.2 λ r hr=>decide_eq_true (Nat.ne_of_lt (ha r hr))
    have e:q.filter (λ w=>decide (w.aU≠k))=q:=S8.2 λ r hr=>decide_eq_true (Nat.ne_of_gt (hq r hr))
    have f:t6 a.length hs=a:=by rw [b]; exact u1 rfl
    have g:s0 (a.length+1) hs=q:=by rw [b]; simp
    rw [c,M7,f,g]
    unfold x8
    rw [b,List.filter_append,List.filter_cons_of_neg (by simp [hp]),d,e]
  . rw [h] at hf; exact Bool.noConfusion (show false=true from congrArg Prod.snd hf)
theorem Cu {hs:List dA} {k:Nat} (h:∀ z ∈ hs,z.aU≠k):x8 k hs=hs:=S8.2 λ z hz=>decide_eq_true (h z hz)
theorem Gd {ws:List bB} {hs:List dA} {rs rs':List aM} {k:Nat} (h:Tk ws hs rs) (hr:∀ q ∈ rs',q.au≠k/\∃ s ∈ rs,s.au=q.au) (hs':jy rs'):Tk (qE k ws) (x8 k hs) rs' where
  wu:=h.wu.filter _
  hu:=h.hu.filter _
  dj:=λ w hw z hz=>h.dj w (P0.1 hw).1 z (P0.1 hz).1
  n:=by
    have:=h.n
    have b:=P3 (λ w:bB=>decide (w.au≠k)) ws
    have c:=P3 (λ w:dA=>decide (w.aU≠k)) hs
    unfold qE x8; omega
  gr:=λ w hw=>h.gr w (P0.1 hw).1
  ho:=λ w hw=>h.ho w (P0.1 hw).1
  snd:=hs'
  uT:=λ q hq=>by
    obtain⟨b,s,c,a⟩:=hr q hq
    rcases h.uT s c with ⟨w,hw,e⟩ | ⟨z,hz,e⟩
    . exact .inl ⟨w,P0.2 ⟨hw,decide_eq_true (by rw [e,a]; exact b)⟩,by rw [e,a]⟩
    . exact .inr ⟨z,P0.2 ⟨hz,decide_eq_true (by rw [e,a]; exact b)⟩,by rw [e,a]⟩
theorem yS {m m1 r:ax} {tb tb':aW} {k:Nat} {j:Int} {b:Bool} {hs':List dA} {p t:bI} {mr:ax} (h:Tk m.ag.ls m.aa.ak.ls tb.ai.ls) (hg:Gt m.ag.ls) (hf:d9 m k=(j,b))
    (a:(b=true/\hs'=t6 (G0 j) m.aa.ak.ls++s0 (G0 j+1) m.aa.ak.ls)\/(b=false/\hs'=m.aa.ak.ls)) (hm:m1.ag=m.ag) (hd:dZ m1 k=r) (hl:p.bE.ls= []) (hr:fo p k mr tb=(t,tb')):
    Tk r.ag.ls hs' tb'.ai.ls/\Gt r.ag.ls/\Li t.bE.ls tb'.ai.ls/\q7 t.bE.ls<=6:=by
  obtain⟨i,f,g,c,d⟩:=Bn h.snd hr
  have hw:r9 m1.ag.ls:=by rw [hm]; exact h.wu
  rw [sw hw] at hd
  subst hd
  rw [hfind] at hf
  have e:hs'=x8 k m.aa.ak.ls:=by
    rcases a with ⟨rfl,e⟩ | ⟨rfl,e⟩
    . rw [e]; exact Ct h.hu hf
    . rw [e]; exact(Cu (hnot h.hu hf)).symm
  rw [e]
  have l:=h.rows
  have n:=yK tb.ai.ls
  rw [hl] at c d
  refine⟨?_,λ w hw=>hg w ?_,d (yQ _) (λ _ h=>absurd h v1),by simp only [K1] at c; omega⟩
  . show Tk (qE k m1.ag.ls) _ _
    rw [hm]; exact Gd h f g
  . have:=(P0.1 hw).1
    rw [hm] at this; exact this
theorem goes {p:bI} {k:Nat} {m:ax} {s:StoreT} {tb:aW} {e:Int} {t:bI} {m':ax} {tb':aW} (hk:Tk m.ag.ls m.aa.ak.ls tb.ai.ls) (hg:Gx k m.ag.ls) (hl:p.bE.ls= []) (h:fH p k m s tb=(e,t,m',tb')):
    Tk m'.ag.ls m'.aa.ak.ls tb'.ai.ls/\Gt m'.ag.ls/\Li t.bE.ls tb'.ai.ls/\q7 t.av.bD.ls<=q7 p.av.bD.ls+1/\jS t.bE.ls m'.ag.ls tb'.ai.ls<=302:=by
  obtain⟨a,b,_⟩:=rQ hk (by rw [hl]; exact yQ _) (by rw [hl]; exact λ _ h=>absurd h v1) hg h
  have c:=Bo hk p.bE.ls
  have d:q7 p.bE.ls=0:=by rw [hl]; rfl
  exact⟨a.tk,a.gt,a.li,a.out,e8⟩
open _root_.Go.Proofs.Tryz renaming call36->T6,call84->U0,isAgg34->D3,isAgg47->H5,sizeOf47->I0
section
open Go.RowKit
def kJ (f:bI) (j:dL) (a:ax) (g:StoreT) (d:aW):Int × bI × ax × aW:=
 bnd (jD a j.bi) λ b=>bnd (eu b.aa.af.ls j.aU) λ o=>if o.2=true then(0,f,ax.mk (bA.mk a.aa.bC a.aa.aQ a.aa.bq a.aa.aJ a.aa.aD (F2 a.aa.ah.ls) (F2 a.aa.ak.ls) (F2 b.aa.af.ls) b.aa.bi a.aa.aI a.aa.aH a.aa.aC) (F2 a.ag.ls),d) else if(j.aU:Int) < (b.aa.bi:Int) then(0,f,ax.mk (bA.mk a.aa.bC a.aa.aQ a.aa.bq a.aa.aJ a.aa.aD (F2 a.aa.ah.ls) (F2 a.aa.ak.ls) (F2 b.aa.af.ls) b.aa.bi a.aa.aI a.aa.aH a.aa.aC) (F2 a.ag.ls),d) else bnd (d9 (ax.mk (bA.mk a.aa.bC a.aa.aQ a.aa.bq a.aa.aJ a.aa.aD (F2 a.aa.ah.ls) (F2 a.aa.ak.ls) (F2 b.aa.af.ls) b.aa.bi a.aa.aI a.aa.aH a.aa.aC) (F2 a.ag.ls)) j.aU) λ k=>if k.2=true then bnd (List.getD a.aa.ak.ls (G0 k.1) default) λ l=>bnd (ib f (dA.mk l.aU (F2 l.aK.ls)) (ax.mk (bA.mk a.aa.bC a.aa.aQ a.aa.bq a.aa.aJ a.aa.aD (F2 a.aa.ah.ls) (F2 a.aa.ak.ls) (F2 b.aa.af.ls) b.aa.bi a.aa.aI a.aa.aH a.aa.aC) (F2 a.ag.ls)) g) λ m=>(m.1,bI.mk (dH.mk (F2 m.2.av.bD.ls) (F2 f.av.aL.ls) f.av.bU) (F2 f.bE.ls),ax.mk (bA.mk a.aa.bC a.aa.aQ a.aa.bq a.aa.aJ a.aa.aD (F2 a.aa.ah.ls) (F2 a.aa.ak.ls) (F2 b.aa.af.ls) b.aa.bi a.aa.aI a.aa.aH a.aa.aC) (F2 a.ag.ls),d) else bnd (bX (ax.mk (bA.mk a.aa.bC a.aa.aQ a.aa.bq a.aa.aJ a.aa.aD (F2 a.aa.ah.ls) (F2 a.aa.ak.ls) (F2 b.aa.af.ls) b.aa.bi a.aa.aI a.aa.aH a.aa.aC) (F2 a.ag.ls)) j.aU) λ h=>if h.2=true then(0,f,ax.mk (bA.mk a.aa.bC a.aa.aQ a.aa.bq a.aa.aJ a.aa.aD (F2 a.aa.ah.ls) (F2 a.aa.ak.ls) (F2 b.aa.af.ls) b.aa.bi a.aa.aI a.aa.aH a.aa.aC) (F2 a.ag.ls),d) else bnd (jM (ax.mk (bA.mk a.aa.bC a.aa.aQ a.aa.bq a.aa.aJ a.aa.aD (F2 a.aa.ah.ls) (F2 a.aa.ak.ls) (F2 b.aa.af.ls) b.aa.bi a.aa.aI a.aa.aH a.aa.aC) (F2 a.ag.ls)) j) λ n=>if n=true then(0,bI.mk (dH.mk (F2 (f.av.bD.ls++ [(dL.mk 4 a.aa.bC 0 0 4 0 0 0 j.aU 0 0 0 0 0 0 false (aj.mk [] []) (F2 []) (F2 []) (F2 []))])) (F2 f.av.aL.ls) f.av.bU) (F2 f.bE.ls),ax.mk (bA.mk a.aa.bC a.aa.aQ a.aa.bq a.aa.aJ a.aa.aD (F2 a.aa.ah.ls) (F2 a.aa.ak.ls) (F2 b.aa.af.ls) b.aa.bi a.aa.aI a.aa.aH a.aa.aC) (F2 a.ag.ls),d) else bnd (oq j.aK.ls) λ i=>if i.2=0 then bnd (fH f j.aU (ax.mk (bA.mk a.aa.bC a.aa.aQ a.aa.bq a.aa.aJ a.aa.aD (F2 a.aa.ah.ls) (F2 a.aa.ak.ls) (F2 b.aa.af.ls) b.aa.bi a.aa.aI a.aa.aH a.aa.aC) (F2 (t6 (G0 h.1) a.ag.ls++((bB.mk j.aU (F2 j.aK.ls) (F2 i.1) 0)::s0 (G0 h.1) a.ag.ls)))) g d) λ c=>if c.1=0 then bnd (ed (bI.mk (dH.mk (F2 c.2.1.av.bD.ls) (F2 f.av.aL.ls) f.av.bU) (F2 c.2.1.bE.ls)) (ax.mk (bA.mk a.aa.bC a.aa.aQ a.aa.bq a.aa.aJ a.aa.aD (F2 a.aa.ah.ls) (F2 c.2.2.1.aa.ak.ls) (F2 b.aa.af.ls) b.aa.bi a.aa.aI a.aa.aH a.aa.aC) (F2 c.2.2.1.ag.ls)) g c.2.2.2) λ e=>(e.1,bI.mk (dH.mk (F2 e.2.1.av.bD.ls) (F2 f.av.aL.ls) f.av.bU) (F2 e.2.1.bE.ls),ax.mk (bA.mk a.aa.bC a.aa.aQ a.aa.bq a.aa.aJ a.aa.aD (F2 a.aa.ah.ls) (F2 e.2.2.1.aa.ak.ls) (F2 b.aa.af.ls) b.aa.bi a.aa.aI a.aa.aH a.aa.aC) (F2 e.2.2.1.ag.ls),e.2.2.2) else(c.1,bI.mk (dH.mk (F2 c.2.1.av.bD.ls) (F2 f.av.aL.ls) f.av.bU) (F2 c.2.1.bE.ls),ax.mk (bA.mk a.aa.bC a.aa.aQ a.aa.bq a.aa.aJ a.aa.aD (F2 a.aa.ah.ls) (F2 c.2.2.1.aa.ak.ls) (F2 b.aa.af.ls) b.aa.bi a.aa.aI a.aa.aH a.aa.aC) (F2 c.2.2.1.ag.ls),c.2.2.2) else(i.2,f,ax.mk (bA.mk a.aa.bC a.aa.aQ a.aa.bq a.aa.aJ a.aa.aD (F2 a.aa.ah.ls) (F2 a.aa.ak.ls) (F2 b.aa.af.ls) b.aa.bi a.aa.aI a.aa.aH a.aa.aC) (F2 a.ag.ls),d)
theorem xw (w D g0) (T:bI) (aL aM X bv aG ai ak) (b:dL) (aH gz au bz gB aS dJ bC gD aT h) (a:ax) (U Q j p O bK bN F u B R) (g:StoreT) (V J S) (r:aW) (K L E r0) (r1:bI) (r2:ax) (r3:aW) (H:Own w D w [blk g0 [.pointer (some ⟨h,0,none⟩), .slice aL T.av.bD.ls.length aM, .slice bv T.av.aL.ls.length aG, .bool T.av.bU, .slice ai T.bE.ls.length ak] 92,row aL T.av.bD.ls.length aM (q2 bV.cells X) 47 21,sepL (q2 IR X),jv ai T.bE.ls.length ak (q2 dB.cells T.bE.ls) 216 2,blk h (kB a U a.aa.ah.ls.length Q j a.aa.ak.ls.length p bK a.aa.af.ls.length bN a.aa.bi R F a.ag.ls.length u S) 80,row j a.aa.ak.ls.length p (q2 bf.cells O) 60 2,sepL (q2 IK O),row bK a.aa.af.ls.length bN (q2 (eN .u64) a.aa.af.ls) 32 1,row F a.ag.ls.length u (q2 aP.cells B) 99 4,sepL (q2 IA B),blk R [.slice V g.xM.ls.length J] 27,blk S [.slice K r.ai.ls.length L] 114,row K r.ai.ls.length L (q2 ay.cells E) 164 6,sepL (q2 Iy E)]) (W:s1 bV.abs X=T.av.bD.ls) (cB:Ro w D λ w'=>bO w' 6 bv T.av.aL.ls.length (q2 aX.cells T.av.aL.ls)) (mr:T.av.aL.ls.length<=aG/\T.av.aL.ls.length<=9223372036854775807) (iW:gz=b.aK.ls.length) (cK:Ro w D λ w'=>bO w' 6 aH b.aK.ls.length (q2 aX.cells b.aK.ls)) (mD:b.aK.ls.length<=au/\b.aK.ls.length<=9223372036854775807) (dR:s1 aR.abs dJ=b.aV.ls) (iX:gB=b.aV.ls.length) (iY:Ro w D λ w'=>bO w' 3 bz b.aV.ls.length (q2 aR.cells dJ)) (mE:b.aV.ls.length<=aS/\b.aV.ls.length<=9223372036854775807) (dS:∀ x ∈ dJ,Ro w D (λ w'=>bO w' 2 x.bz.A x.bz.ls.length (q2 az.cells x.bz.ls))/\(x.bz.ls.length<=x.bz.c/\x.bz.ls.length<=9223372036854775807)) (iZ:gD=b.ah.ls.length) (ja:Ro w D λ w'=>bO w' 2 bC b.ah.ls.length (q2 bM.cells b.ah.ls)) (mF:b.ah.ls.length<=aT/\b.ah.ls.length<=9223372036854775807) (dU:Ro w D λ w'=>bO w' 2 U a.aa.ah.ls.length (q2 bM.cells a.aa.ah.ls)) (jZ:a.aa.ah.ls.length<=Q/\a.aa.ah.ls.length<=9223372036854775807) (N:s1 bf.abs O=a.aa.ak.ls) (G:s1 aP.abs B=a.ag.ls) (aA:Ro w D λ w'=>bO w' 2 V g.xM.ls.length (q2 az.cells g.xM.ls)) (jb:g.xM.ls.length<=J/\g.xM.ls.length<=9223372036854775807) (I:s1 ay.abs E=r.ai.ls) (pR:Tk a.ag.ls a.aa.ak.ls r.ai.ls) (pU:Gt a.ag.ls) (pV:T.bE.ls= []) (pW:a.ag.ls.length+a.aa.ak.ls.length<=6) (pX:r.ai.ls.length<=6) (pY:T.bE.ls.length<=0/\T.av.bD.ls.length<=1000/\T.av.aL.ls.length<=100/\g.xM.ls.length<=4000/\a.aa.ah.ls.length<=1000/\a.aa.af.ls.length<=999) (p8: ¬ (b.aB=3)\/b.aK.ls.length<=24) (p9:b.aB=3) (hr:kJ T b a g r=(r0,r1,r2,r3)):
    Calls Tryz.prog 39 #[vP g0 0, .agg (iy b.aB b.jo b.jU b.iq b.gp b.iZ b.gN b.aQ b.aU b.bi b.bq b.aJ b.aD b.bv b.xN b.ik b.aA.aN b.aA.aT aH gz au bz gB aS bC gD aT).toArray] w (dI λ v w'=> ∃ dV dW cO dX dY dZ ek df eB eD eG eH dh eO eP di,v=vI r0/\Own w D w' [blk g0 [vP h 0, .slice dV r1.av.bD.ls.length dW, .slice bv T.av.aL.ls.length aG, .bool T.av.bU, .slice dX r1.bE.ls.length dY] 92,row dV r1.av.bD.ls.length dW (q2 bV.cells cO) 47 21,sepL (q2 IR cO),jv dX r1.bE.ls.length dY (q2 dB.cells r1.bE.ls) 216 2,blk h (kB a U a.aa.ah.ls.length Q dZ r2.aa.ak.ls.length ek eB r2.aa.af.ls.length eD r2.aa.bi R eG r2.ag.ls.length eH S) 80,row dZ r2.aa.ak.ls.length ek (q2 bf.cells df) 60 2,sepL (q2 IK df),row eB r2.aa.af.ls.length eD (q2 (eN .u64) r2.aa.af.ls) 32 1,row eG r2.ag.ls.length eH (q2 aP.cells dh) 99 4,sepL (q2 IA dh),blk R [.slice V g.xM.ls.length J] 27,blk S [.slice eO r3.ai.ls.length eP] 114,row eO r3.ai.ls.length eP (q2 ay.cells di) 164 6,sepL (q2 Iy di)]/\(s1 bV.abs cO=r1.av.bD.ls)/\(s1 bf.abs df=r2.aa.ak.ls)/\(s1 aP.abs dh=r2.ag.ls)/\(s1 ay.abs di=r3.ai.ls)):=by
 subst iW iX iZ
 have mo:=aY W
 have mq:=aY dR
 have jX:=aY N
 have jY:=aY G
 have gF:=aY I
 have mG:=zr 1 H
 have mH:=H.rowCQ (i:=3) rfl
 have j3:=zr 5 H
 have j4:=zr 7 H
 have j5:=zr 8 H
 refine cb Tryz.func39 ?_
 refine sr ?_
 refine bW (lX b aH au bz aS bC aT) 47 H ?_
 intro bn qb mI
 refine An rfl (H7 ?_)
 have mK:=mI.pb [5,6,7,8,9,10]
 refine mJ 9 [] (Ik Iw) mK ?_
 intro qf mM
 refine qv 0 rfl rfl (qp g0 0 1 rfl (qp g0 0 2 rfl (ql 3 rfl 1 Q8 rfl rfl rfl (qp bn 9 4 rfl (ql 5 rfl 0 E1 rfl rfl rfl ?_)))))
 have mO:=mM.pf [9,12]
 obtain⟨d,aI⟩:∃ q,jD a b.bi=q:=⟨_,rfl⟩
 obtain⟨qg,j6,oD,kg,oF⟩:=IX mO
 refine qd 6 rfl (IB Tryz.call75 rfl (ug _ _ h a U Q j p bK bN F u R S b.bi d j6 f0 aI) ?_)
 rintro _ qh ⟨aB,aC,rfl,kr,gG⟩
 have ku:=kg _ _ kr
 have oG:=zr 1 ku
 replace gG:d.aa.af.ls.length<=a.aa.af.ls.length:=gG
 have kv:=ku.pb [0,1,11,12,13,14]
 refine⟨.inr ⟨_,kv⟩, ?_⟩
 refine qn (Ib (H7 (H7 ?_)))
 refine mJ 15 [] (Ik (Ik Iw)) kv ?_
 intro qi mP
 refine qv 0 rfl rfl (qp g0 0 1 rfl (qp g0 0 2 rfl (ql 3 rfl 1 Q8 rfl rfl rfl (qp h 0 4 rfl (qp h 0 5 rfl (qp h 7 6 rfl (ql 7 rfl 9 Tryz.isAgg35 rfl rfl rfl (qp bn 8 8 rfl (ql 9 rfl 0 E1 rfl rfl rfl ?_)))))))))
 obtain⟨⟨gu,jc⟩,aJ⟩:∃ q:Int × Bool,eu d.aa.af.ls b.aU=q:=⟨_,rfl⟩
 obtain⟨qj,kw,oH,kz,kC⟩:=Ia mP
 refine qd 10 rfl (IB Tryz.call76 rfl (ky _ _ aB d.aa.af.ls.length aC d.aa.af.ls b.aU gu jc kw (kC _ 10 _ rfl bP) rfl e8 aJ) ?_)
 rintro _ qm ⟨rfl,kD,gI⟩
 have kE:=kz _ _ kD
 replace gI:0<=gu/\gu<=(d.aa.af.ls.length:Int):=gI
 refine⟨.inr ⟨_,kE⟩, ?_⟩
 refine qv 11 rfl rfl (qk (vI gu) 12 rfl (qk (.bool jc) 13 rfl (qa 14 rfl rfl (qa 15 rfl rfl (qn (Ib (H7 ?_)))))))
 refine mJ 15 [] (Ik (Ik Iw)) kE ?_
 intro qo jd
 refine qv 0 rfl rfl (qv 1 rfl rfl ?_)
 rcases Lr (jc) with M | M
 refine Ih (rs:= []) 2 rfl rfl rfl M e9 (Ih (rs:= []) 3 rfl rfl rfl M e9 (Ih (rs:= []) 4 rfl rfl rfl M e9 (Ih (rs:= []) 5 rfl rfl rfl M e9 (Ih (rs:= []) 6 rfl rfl rfl M e9 (Ih (rs:= []) 7 rfl rfl rfl M e9 (Ih (rs:= []) 8 rfl rfl rfl M e9 (Ih (rs:= []) 9 rfl rfl rfl M e9 (Ih (rs:= []) 10 rfl rfl rfl M e9 (Ih (rs:= []) 11 rfl rfl rfl M e9 (Ih (rs:= []) 12 rfl rfl rfl M e9 (qt (v:= .bool true) 13 rfl (λ _ _=>Ic rfl M rfl) (qn (Ib (jt (sr (An rfl (rt (tR (rs ?_)))))))))))))))))))
 have mQ:=jd.px [] [0] [10,13,14,5,6,7,8]
 obtain⟨rfl,rfl,rfl,rfl⟩:=gH (zj hr (show _=(0,T,ax.mk (bA.mk a.aa.bC a.aa.aQ a.aa.bq a.aa.aJ a.aa.aD (F2 a.aa.ah.ls) (F2 a.aa.ak.ls) (F2 d.aa.af.ls) d.aa.bi a.aa.aI a.aa.aH a.aa.aC) (F2 a.ag.ls),r) from et (ae aI) (et (ae aJ) (ip M)))).symm
 exact⟨aL,aM,X,ai,ak,j,p,O,aB,aC,F,u,B,K,L,E,rfl,mQ,W,N,G,I⟩
 refine Ii (v:=vP bn 8) (rs:= []) 2 rfl rfl rfl M e9 (λ _ _=>yk) (Ii (v:=vU b.aU) (rs:= []) 3 rfl rfl rfl M e9 (λ _ ⟨_,H9⟩=>Il rfl (bQ.one E1 (IU (H9.cls (i:=0) rfl) rfl))) (Ii (v:=vP g0 0) (rs:= []) 4 rfl rfl rfl M e9 (λ _ _=>Ie rfl) (Ii (v:=vP g0 0) (rs:= []) 5 rfl rfl rfl M e9 (λ _ _=>yk) (Ii (v:=vP g0 0) (rs:= []) 6 rfl rfl rfl M e9 (λ _ _=>yk) (Ii (v:=vP h 0) (rs:= []) 7 rfl rfl rfl M e9 (λ _ ⟨_,H9⟩=>Il rfl (bQ.one Q8 (IU (H9.cls (i:=1) rfl) rfl))) (Ii (v:=vP h 0) (rs:= []) 8 rfl rfl rfl M e9 (λ _ _=>yk) (Ii (v:=vP h 0) (rs:= []) 9 rfl rfl rfl M e9 (λ _ _=>yk) (Ii (v:=vP h 8) (rs:= []) 10 rfl rfl rfl M e9 (λ _ _=>yk) (Ii (v:=vU d.aa.bi) (rs:= []) 11 rfl rfl rfl M e9 (λ _ ⟨_,H9⟩=>Il rfl (bQ.one E1 (IU (H9.cls (i:=9) rfl) rfl))) (Ii (v:= .bool (decide ((b.aU:Int) < (d.aa.bi:Int)))) (rs:= []) 12 rfl rfl rfl M e9 (λ _ _=>yk) (qt (v:= .bool (decide ((b.aU:Int) < (d.aa.bi:Int)))) 13 rfl (λ _ _=>H6 rfl M rfl) (qn (Ib ?_)))))))))))))
 by_cases bR:(b.aU:Int) < (d.aa.bi:Int)
 refine jT (dT bR) (sr (An rfl (rt (tR (rs ?_)))))
 have mR:=jd.px [] [0] [10,13,14,5,6,7,8]
 obtain⟨rfl,rfl,rfl,rfl⟩:=gH (zj hr (show _=(0,T,ax.mk (bA.mk a.aa.bC a.aa.aQ a.aa.bq a.aa.aJ a.aa.aD (F2 a.aa.ah.ls) (F2 a.aa.ak.ls) (F2 d.aa.af.ls) d.aa.bi a.aa.aI a.aa.aH a.aa.aC) (F2 a.ag.ls),r) from et (ae aI) (et (ae aJ) (et (eF M) (ip bR))))).symm
 exact⟨aL,aM,X,ai,ak,j,p,O,aB,aC,F,u,B,K,L,E,rfl,mR,W,N,G,I⟩
 refine jF (dF bR) (sk (H7 (H7 ?_)))
 refine mJ 15 [] (Ik (Ik Iw)) jd ?_
 intro qw mU
 refine qv 0 rfl rfl (qp g0 0 1 rfl (qp g0 0 2 rfl (ql 3 rfl 1 Q8 rfl rfl rfl (qp bn 8 4 rfl (ql 5 rfl 0 E1 rfl rfl rfl ?_)))))
 have jf:=mU.pf [9]
 have oI:=zr 11 jf
 obtain⟨⟨bq,dP⟩,aN⟩:∃ q:Int × Bool,d9 (ax.mk (bA.mk a.aa.bC a.aa.aQ a.aa.bq a.aa.aJ a.aa.aD (F2 a.aa.ah.ls) (F2 a.aa.ak.ls) (F2 d.aa.af.ls) d.aa.bi a.aa.aI a.aa.aH a.aa.aC) (F2 a.ag.ls)) b.aU=q:=⟨_,rfl⟩
 obtain⟨qx,kF,oJ,kG,gJ⟩:=IE jf
 refine qd 6 rfl (IB Tryz.call77 rfl (mX _ _ h (ax.mk (bA.mk a.aa.bC a.aa.aQ a.aa.bq a.aa.aJ a.aa.aD (F2 a.aa.ah.ls) (F2 a.aa.ak.ls) (F2 d.aa.af.ls) d.aa.bi a.aa.aI a.aa.aH a.aa.aC) (F2 a.ag.ls)) U Q j p O aB aC F u R S b.aU bq dP kF N (gJ _ 10 _ rfl bP) e8 (λ x9 h9=>⟨gJ _ 11 _ rfl (bL (O3.2 ⟨x9,h9,b3⟩) bP),dC (φ:=λ _=>_) jf (i:=12) rfl (bL (O3.2 ⟨x9,h9,b3⟩) dK)⟩) f0 aN) ?_)
 rintro _ qy ⟨rfl,kH,gK,gL⟩
 have mV:=kG _ _ kH
 replace gK:0<=bq/\bq<=(a.aa.ak.ls.length:Int):=gK
 replace gL:Bool.toNat dP=0\/bq < (a.aa.ak.ls.length:Int):=gL
 have bS:=mV.pb [0,10,11,12,13,14]
 refine⟨.inr ⟨_,bS⟩, ?_⟩
 refine qv 7 rfl rfl (qk (vI bq) 8 rfl (qk (.bool dP) 9 rfl (qa 10 rfl rfl (qa 11 rfl rfl (qn (Ib (sr (Mn rfl ?_))))))))
 rcases Lr (dP) with aQ | aQ
 have h87t:Bool.toNat dP=1:=by rw [aQ]; rfl
 refine jT aQ (sr (Mz rfl (Mz rfl (Kz (vP g0 0) (Kz (vP g0 0) (Lz (vP h 0) bS 1 Q8 (Kz (vP h 0) (Kz (vP h 0) (Kz (vP h 6) (Lz (.slice j a.aa.ak.ls.length p) bS 9 D3 (fw (vJ (G0 bq)) (Ig (e:=bq) (Ie rfl) e8) ?_)))))))))))
 obtain⟨aa,dM⟩:=dG (ls:=O) (i:=G0 bq) bf.len f5 (bS.rds (i:=11) rfl) f2
 have gM:=fO N dM
 have oK:aa.aK.ls.length<=aa.aK.c/\aa.aK.ls.length<=9223372036854775807:=dC bS (i:=12) rfl (φ:=λ _=>_) (bL (O3.2 ⟨aa,D4 dM,b3⟩) dK)
 have oL:aa.aK.ls.length<=24:=Ku (hs:=a.aa.ak.ls) f6 gM
 refine fw (.pointer (some ⟨ab j,ao j+(G0 bq) *2,none⟩)) (Im (ko) rfl rfl ((bS.rds (i:=11) rfl).addr (i:=G0 bq) e8) e8) (fw (.agg (bf.cells aa).toArray) (Il rfl (Io (cs:=(bf.cells aa)) Tryz.isAgg60 Tryz.sizeOf60 ((bS.rds (i:=11) rfl).elem bf.len dM f5))) ?_)
 have mW:=bS.pf [1,2,3,9,5]
 obtain⟨⟨kI,eQ⟩,eT⟩:∃ q:Int × bI,ib T (dA.mk aa.aU (F2 aa.aK.ls)) (ax.mk (bA.mk a.aa.bC a.aa.aQ a.aa.bq a.aa.aJ a.aa.aD (F2 a.aa.ah.ls) (F2 a.aa.ak.ls) (F2 d.aa.af.ls) d.aa.bi a.aa.aI a.aa.aH a.aa.aC) (F2 a.ag.ls)) g=q:=⟨_,rfl⟩
 obtain⟨qz,kK,gN,kL,kM⟩:=JF mW
 refine cl Tryz.call78 (rA _ _ g0 T aL aM X bv aG ai ak (dA.mk aa.aU (F2 aa.aK.ls)) aa.aK.A aa.aK.ls.length aa.aK.c h (ax.mk (bA.mk a.aa.bC a.aa.aQ a.aa.bq a.aa.aJ a.aa.aD (F2 a.aa.ah.ls) (F2 a.aa.ak.ls) (F2 d.aa.af.ls) d.aa.bi a.aa.aI a.aa.aH a.aa.aC) (F2 a.ag.ls)) U Q j p aB aC F u S R g V J kI eQ kK W (gN _ cB) e8 rfl (kM _ 7 _ rfl (bL (O3.2 ⟨aa,D4 dM,b3⟩) bP)) e8 (gN _ aA) e8 f0 eT) ?_
 rintro _ oM ⟨kN,kP,kQ,rfl,jg,eU,eX⟩
 have gP:=kL _ _ jg
 have mY:=aY eU
 have mZ:=zr 1 gP
 replace eX:eQ.av.bD.ls.length<=T.av.bD.ls.length+1:=eX
 refine An rfl (rt (tR (rs ?_)))
 have kR:=gP.px [] [5] [3,11,12,10,13,14,4,7,8,9]
 obtain⟨rfl,rfl,rfl,rfl⟩:=gH (zj hr (show _=(kI,bI.mk (dH.mk (F2 eQ.av.bD.ls) (F2 T.av.aL.ls) T.av.bU) (F2 T.bE.ls),ax.mk (bA.mk a.aa.bC a.aa.aQ a.aa.bq a.aa.aJ a.aa.aD (F2 a.aa.ah.ls) (F2 a.aa.ak.ls) (F2 d.aa.af.ls) d.aa.bi a.aa.aI a.aa.aH a.aa.aC) (F2 a.ag.ls),r) from et (ae aI) (et (ae aJ) (et (eF M) (et (iN bR) (et (ae aN) (et (ip aQ) (et (ae (bu gM)) (ae eT))))))))).symm
 exact⟨kN,kP,kQ,ai,ak,j,p,O,aB,aC,F,u,B,K,L,E,rfl,kR,eU,N,G,I⟩
 have h87t:Bool.toNat dP=0:=by rw [aQ]; rfl
 refine jF aQ (sk (H7 ?_))
 refine mJ 15 [] (Ik Iw) bS ?_
 intro oN kS
 refine qv 0 rfl rfl (qp g0 0 1 rfl (qp g0 0 2 rfl (ql 3 rfl 1 Q8 rfl rfl rfl (qp bn 8 4 rfl (ql 5 rfl 0 E1 rfl rfl rfl ?_)))))
 have dN:=kS.pf [9]
 have ng:=zr 13 dN
 obtain⟨⟨C,bD⟩,aD⟩:∃ q:Int × Bool,bX (ax.mk (bA.mk a.aa.bC a.aa.aQ a.aa.bq a.aa.aJ a.aa.aD (F2 a.aa.ah.ls) (F2 a.aa.ak.ls) (F2 d.aa.af.ls) d.aa.bi a.aa.aI a.aa.aH a.aa.aC) (F2 a.ag.ls)) b.aU=q:=⟨_,rfl⟩
 obtain⟨oO,jh,ni,ji,dm⟩:=IE dN
 refine qd 6 rfl (IB Tryz.call79 rfl (je _ _ h (ax.mk (bA.mk a.aa.bC a.aa.aQ a.aa.bq a.aa.aJ a.aa.aD (F2 a.aa.ah.ls) (F2 a.aa.ak.ls) (F2 d.aa.af.ls) d.aa.bi a.aa.aI a.aa.aH a.aa.aC) (F2 a.ag.ls)) U Q j p aB aC F u B R S b.aU C bD jh G (dm _ 12 _ rfl bP) e8 (λ x9 h9=>⟨dm _ 13 _ rfl (bL (O3.2 ⟨x9,h9,b3⟩) bP),dC (φ:=λ _=>_) dN (i:=14) rfl (bL (O3.2 ⟨x9,h9,b3⟩) dK),dm _ 13 _ rfl (bL (O3.2 ⟨x9,h9, .tail _ b3⟩) bP),dC (φ:=λ _=>_) dN (i:=14) rfl (bL (O3.2 ⟨x9,h9, .tail _ b3⟩) dK)⟩) f0 aD) ?_)
 rintro _ oP ⟨rfl,jk,eZ,fe⟩
 have kT:=ji _ _ jk
 replace eZ:0<=C/\C<=(a.ag.ls.length:Int):=eZ
 replace fe:Bool.toNat bD=0\/C < (a.ag.ls.length:Int):=fe
 have fo:=kT.pb [0,10,11,12,13,14]
 refine⟨.inr ⟨_,fo⟩, ?_⟩
 refine qv 7 rfl rfl (qk (vI C) 8 rfl (qk (.bool bD) 9 rfl (qa 10 rfl rfl (qa 11 rfl rfl (qn (Ib (H7 (sr (Mn rfl ?_)))))))))
 rcases Lr (bD) with af | af
 have h135t:Bool.toNat bD=1:=by rw [af]; rfl
 refine jT af (sr (An rfl (rt (tR (rs ?_)))))
 have kU:=fo.px [] [0] [10,13,14,5,6,7,8]
 obtain⟨rfl,rfl,rfl,rfl⟩:=gH (zj hr (show _=(0,T,ax.mk (bA.mk a.aa.bC a.aa.aQ a.aa.bq a.aa.aJ a.aa.aD (F2 a.aa.ah.ls) (F2 a.aa.ak.ls) (F2 d.aa.af.ls) d.aa.bi a.aa.aI a.aa.aH a.aa.aC) (F2 a.ag.ls),r) from et (ae aI) (et (ae aJ) (et (eF M) (et (iN bR) (et (ae aN) (et (eF aQ) (et (ae aD) (ip af))))))))).symm
 exact⟨aL,aM,X,ai,ak,j,p,O,aB,aC,F,u,B,K,L,E,rfl,kU,W,N,G,I⟩
 have h135t:Bool.toNat bD=0:=by rw [af]; rfl
 refine jF af (sk (H7 (H7 ?_)))
 refine mJ 15 [] (Ik (Ik Iw)) fo ?_
 intro oQ kV
 refine qv 0 rfl rfl (qp g0 0 1 rfl (qp g0 0 2 rfl (ql 3 rfl 1 Q8 rfl rfl rfl (qt (v:= .agg (lX b aH au bz aS bC aT).toArray) 4 rfl (λ _ ⟨_,H9⟩=>Il rfl (Io (cs:=(lX b aH au bz aS bC aT)) H5 I0 ((H9.cls (i:=0) rfl).lit (k:=0) (m:=21) rfl))) ?_))))
 have kW:=kV.pf [9]
 obtain⟨gQ,aK⟩:∃ q,jM (ax.mk (bA.mk a.aa.bC a.aa.aQ a.aa.bq a.aa.aJ a.aa.aD (F2 a.aa.ah.ls) (F2 a.aa.ak.ls) (F2 d.aa.af.ls) d.aa.bi a.aa.aI a.aa.aH a.aa.aC) (F2 a.ag.ls)) b=q:=⟨_,rfl⟩
 obtain⟨oU,jl,aU,jm,nk⟩:=IE kW
 refine qd 5 rfl (IB Tryz.call80 rfl (uk _ _ h (ax.mk (bA.mk a.aa.bC a.aa.aQ a.aa.bq a.aa.aJ a.aa.aD (F2 a.aa.ah.ls) (F2 a.aa.ak.ls) (F2 d.aa.af.ls) d.aa.bi a.aa.aI a.aa.aH a.aa.aC) (F2 a.ag.ls)) U Q j p aB aC F u R S b aH b.aK.ls.length au bz b.aV.ls.length aS dJ bC b.ah.ls.length aT gQ jl (aU _ dU) e8 rfl (aU _ cK) e8 dR rfl (aU _ iY) e8 (λ x9 h9=>⟨aU _ (dS x9 h9).1,(dS x9 h9).2⟩) rfl (aU _ ja) e8 f0 aK) ?_)
 rintro _ oV ⟨rfl,jo⟩
 have kX:=jm _ _ jo
 have bU:=kX.pb [0,10,11,12,13,14]
 refine⟨.inr ⟨_,bU⟩, ?_⟩
 refine qn (Ib ?_)
 rcases Lr (gQ) with aO | aO
 refine jT aO (sr (Mz rfl (Kz (vP bn 8) (Lz (vU b.aU) bU 0 E1 (Kz (.agg (iy 4 0 0 0 4 0 0 0 b.aU 0 0 0 0 0 0 false [] [] none 0 0 none 0 0 none 0 0).toArray) ?_)))))
 refine WL.do rfl (IB Tryz.call81 rfl ?_ (λ _ _ k=>k))
 refine cb Tryz.func81 ?_
 refine sr ?_
 refine bW (iy 4 0 0 0 4 0 0 0 b.aU 0 0 0 0 0 0 false [] [] none 0 0 none 0 0 none 0 0) 47 bU ?_
 intro fq oW fu
 refine ns (Mz rfl (Kz (vP g0 0) (Kz (vP g0 0) (Lz (vP h 0) fu 2 Q8 (Kz (vP h 0) (Kz (vP h 0) (Kz (vP h 0) (Lz (vI a.aa.bC) fu 10 Tryz.isAgg3 (Kz (vP fq 1) ?_)))))))))
 refine cu [vI a.aa.bC] 1 fu Tryz.sizeOf3 ?_
 intro oZ gT
 refine ns (Kz (vP fq 18) (Lz (.slice none 0 0) gT 0 E3 ?_))
 obtain⟨o5,jq,nu,jr,ny⟩:=Ia gT
 refine cl T6 (iK _ _ none 0 0 [] [] jq (λ _ _=>bO.nil _ _ _) rfl i3 rfl) ?_
 rintro _ o6 ⟨Y,Z,rfl,jw⟩
 have gU:=jr _ _ jw
 have nz:=zr 0 gU
 refine Kz (vP fq 18) ?_
 have kY:=gU.pf [1]
 refine cu [.slice Y 0 Z] 18 kY Tryz.sizeOf44 ?_
 intro o7 kZ
 refine nt ?_
 refine mJ 17 [8,12] Iw kZ ?_
 intro o8 lc
 refine IP (v:=vP g0 0) 0 rfl e9 (λ _=>Ie rfl) (qv 1 rfl rfl (qp g0 0 2 rfl (qp g0 1 3 rfl (qp g0 1 4 rfl (ql 5 rfl 3 Tryz.isAgg50 rfl rfl rfl (qt (v:= .agg (iy 4 a.aa.bC 0 0 4 0 0 0 b.aU 0 0 0 0 0 0 false [] [] Y 0 Z none 0 0 none 0 0).toArray) 6 rfl (λ _ ⟨_,H9⟩=>Il rfl (Io (cs:=(iy 4 a.aa.bC 0 0 4 0 0 0 b.aU 0 0 0 0 0 0 false [] [] Y 0 Z none 0 0 none 0 0)) H5 I0 ((H9.cls (i:=0) rfl).lit (k:=0) (m:=21) rfl))) ?_))))))
 refine qd 7 rfl (IZ (cs:=(iy 4 a.aa.bC 0 0 4 0 0 0 b.aU 0 0 0 0 0 0 false [] [] Y 0 Z none 0 0 none 0 0)) (t:=47) (sz:=21) (m:=1) lc rfl rfl (λ _=>by kernel_rfl) rfl f5 ?_)
 intro lg fA fB
 replace fB:=IL (y:=row lg 1 1 (q2 bV.cells ([(bV.mk 4 a.aa.bC 0 0 4 0 0 0 b.aU 0 0 0 0 0 0 false (aj.mk [] []) (N1 Y Z []) (N1 none 0 []) (N1 none 0 []))])) 47 21) rfl fB
 have gV:=fB.pb [0]
 refine⟨.inr ⟨_,gV⟩, ?_⟩
 have lh:Own w D fA (sepL (q2 IJ [])::_):=gV.sepNil
 have ll:Own w D fA (row none 0 0 (q2 aR.cells []) 70 3::_):=lh.free (bZ 70 3)
 have lm:Own w D fA (row none 0 0 (q2 bM.cells []) 83 2::_):=ll.free (bZ 83 2)
 have gW:=lm.pf [7,8,4,1]
 refine qd 8 rfl (IC (k:=T.av.bD.ls.length) (m:=1) (sK) gW rfl rfl (eY R6 (gW.rds (i:=20) rfl) (cZ bV.one ([(bV.mk 4 a.aa.bC 0 0 4 0 0 0 b.aU 0 0 0 0 0 0 false (aj.mk [] []) (N1 Y Z []) (N1 none 0 []) (N1 none 0 []))]))) rfl e8 (s:=q7 (T.av.bD.ls++ [(dL.mk 4 a.aa.bC 0 0 4 0 0 0 b.aU 0 0 0 0 0 0 false (aj.mk [] []) (F2 []) (F2 []) (F2 []))])) f3 (t7).symm ?_)
 intro gX gY lq lu
 have lv:=lu.pf [1,2,3,4,5]
 have lw:Own w D lq (sepL (q2 IR (X++ [(bV.mk 4 a.aa.bC 0 0 4 0 0 0 b.aU 0 0 0 0 0 0 false (aj.mk [] []) (N1 Y Z []) (N1 none 0 []) (N1 none 0 []))]))::_):=lv.sepAdd (L2:= [row Y 0 Z (q2 aX.cells []) 68 6,row none 0 0 (q2 aR.cells []) 70 3,row none 0 0 (q2 bM.cells []) 83 2,sepL (q2 IJ [])]) (t7 (f:=IR) (xs:=X) (ys:= [(bV.mk 4 a.aa.bC 0 0 4 0 0 0 b.aU 0 0 0 0 0 0 false (aj.mk [] []) (N1 Y Z []) (N1 none 0 []) (N1 none 0 []))])).symm
 have nA:q7 (T.av.bD.ls++ [(dL.mk 4 a.aa.bC 0 0 4 0 0 0 b.aU 0 0 0 0 0 0 false (aj.mk [] []) (F2 []) (F2 []) (F2 []))])=T.av.bD.ls.length+1:=by simp only [o0,r5,K1]
 have nC:=aY (jI (es:= [(bV.mk 4 a.aa.bC 0 0 4 0 0 0 b.aU 0 0 0 0 0 0 false (aj.mk [] []) (N1 Y Z []) (N1 none 0 []) (N1 none 0 []))]) (ms:= [(dL.mk 4 a.aa.bC 0 0 4 0 0 0 b.aU 0 0 0 0 0 0 false (aj.mk [] []) (F2 []) (F2 []) (F2 []))]) W rfl)
 refine⟨.inl e9, ?_⟩
 refine IP (v:=vP g0 0) 9 rfl e9 (λ _=>yk) (IP (v:=vP g0 1) 10 rfl e9 (λ _=>yk) (IP (v:=vP g0 1) 11 rfl e9 (λ _=>yk) ?_))
 have lC:=lw.pf [4]
 refine qe 12 rfl (Do.store (vs:= [.slice gX (q7 (T.av.bD.ls++ [(dL.mk 4 a.aa.bC 0 0 4 0 0 0 b.aU 0 0 0 0 0 0 false (aj.mk [] []) (F2 []) (F2 []) (F2 []))])) gY]) (o:=1) lC rfl rfl Tryz.sizeOf50 rfl rfl rfl rfl ?_)
 intro o9 lD
 refine⟨.inl e9, ?_⟩
 refine qn (IV (res0 rfl) (nt (H7 ?_)))
 have lF:=lD.px [] [3,16] []
 refine H8 (An rfl (rt (tR (rs ?_))))
 have lG:=lF.px [0,2] [3] [10,13,14,5,6,7,8]
 obtain⟨rfl,rfl,rfl,rfl⟩:=gH (zj hr (show _=(0,bI.mk (dH.mk (F2 (T.av.bD.ls++ [(dL.mk 4 a.aa.bC 0 0 4 0 0 0 b.aU 0 0 0 0 0 0 false (aj.mk [] []) (F2 []) (F2 []) (F2 []))])) (F2 T.av.aL.ls) T.av.bU) (F2 T.bE.ls),ax.mk (bA.mk a.aa.bC a.aa.aQ a.aa.bq a.aa.aJ a.aa.aD (F2 a.aa.ah.ls) (F2 a.aa.ak.ls) (F2 d.aa.af.ls) d.aa.bi a.aa.aI a.aa.aH a.aa.aC) (F2 a.ag.ls),r) from et (ae aI) (et (ae aJ) (et (eF M) (et (iN bR) (et (ae aN) (et (eF aQ) (et (ae aD) (et (eF af) (et (ae aK) (ip aO))))))))))).symm
 exact⟨gX,gY,(X++ [(bV.mk 4 a.aa.bC 0 0 4 0 0 0 b.aU 0 0 0 0 0 0 false (aj.mk [] []) (N1 Y Z []) (N1 none 0 []) (N1 none 0 []))]),ai,ak,j,p,O,aB,aC,F,u,B,K,L,E,rfl,lG,(jI (es:= [(bV.mk 4 a.aa.bC 0 0 4 0 0 0 b.aU 0 0 0 0 0 0 false (aj.mk [] []) (N1 Y Z []) (N1 none 0 []) (N1 none 0 []))]) (ms:= [(dL.mk 4 a.aa.bC 0 0 4 0 0 0 b.aU 0 0 0 0 0 0 false (aj.mk [] []) (F2 []) (F2 []) (F2 []))]) W rfl),N,G,I⟩
 refine jF aO (sk (sr (Kz (vP bn 18) (Lz (.slice aH b.aK.ls.length au) bU 0 E3 ?_))))
 obtain⟨⟨P,bE⟩,aV⟩:∃ q:(List aF) × Int,oq b.aK.ls=q:=⟨_,rfl⟩
 obtain⟨pg,jy,jA,jB,nD⟩:=Ia bU
 refine cl Tryz.call37 (BF _ _ aH b.aK.ls.length au b.aK.ls P bE jy (jA _ cK) rfl e8 aV) ?_
 rintro _ pq ⟨aZ,bg,rfl,jC⟩
 have fC:=jB _ _ jC
 have nE:=zr 0 fC
 have nG:P.length<=b.aK.ls.length:=wW aV
 refine Mz rfl (Kz (.slice aZ P.length bg) (Kz (vI bE) (Az rfl (An rfl (H7 (sr (Mz rfl (fw (.bool (decide (¬ (bE=0)))) (Iu (e:= !(decide (bE=0))) yk decide_not.symm) (nt ?_)))))))))
 by_cases bY:bE=0
 refine jF (dF (Lp bY)) (sk (H7 ?_))
 have lH:=fC.pf [1,2,6,7,10]
 refine EP [23] (Ik Iw) lH ?_
 intro pu lI
 refine qv 0 rfl rfl (qp g0 0 1 rfl (qp g0 0 2 rfl (ql 3 rfl 1 Q8 rfl rfl rfl (qv 4 rfl rfl (qp g0 0 5 rfl (qp g0 0 6 rfl (ql 7 rfl 1 Q8 rfl rfl rfl (qp h 0 8 rfl (qp h 18 9 rfl (ql 10 rfl 4 Tryz.isAgg77 rfl rfl rfl (qv 11 rfl rfl (qp bn 8 12 rfl (ql 13 rfl 0 E1 rfl rfl rfl (qp bn 18 14 rfl (ql 15 rfl 0 E3 rfl rfl rfl (qv 17 rfl rfl ?_))))))))))))))))
 obtain⟨pz,jE,jG,jH,nH⟩:=Ia lI
 refine qd 16 rfl (IB T6 rfl (iK _ _ aH b.aK.ls.length au b.aK.ls b.aK.ls jE (jG _ cK) rfl e8 rfl) ?_)
 rintro _ pE ⟨bF,bG,rfl,jK⟩
 have gZ:=jH _ _ jK
 have nJ:=zr 0 gZ
 have ic:=gZ.pf [1,2,3,4,5]
 refine⟨.inr ⟨_,ic⟩, ?_⟩
 refine qk (.agg #[vU b.aU, .slice bF b.aK.ls.length bG, .slice aZ P.length bg,vI 0]) 18 rfl ?_
 refine qd 19 rfl (Jn (cs:= [vU b.aU, .slice bF b.aK.ls.length bG, .slice aZ P.length bg,vI 0]) (t:=99) (sz:=4) (m:=1) ic rfl rfl (λ _=>by kernel_rfl) rfl ?_)
 intro ig pF fD
 replace fD:=IL (y:=lN ig 1 (q2 aP.cells ([(aP.mk b.aU (N1 bF bG b.aK.ls) (N1 aZ bg P) 0)])) 99 4) rfl fD
 have ik:=fD.pf [1,2,3,4,5]
 refine⟨.inr ⟨_,ik⟩, ?_⟩
 have lJ:=ik.pf [16,5,17,6,7]
 obtain⟨pG,jL,nK,jN,nL⟩:=JF lJ
 refine qd 20 rfl (IB Tryz.call82 rfl (xU _ _ F a.ag.ls.length u B a.ag.ls C (G0 C) ig (aP.mk b.aU (N1 bF bG b.aK.ls) (N1 aZ bg P) 0) (bB.mk b.aU (F2 b.aK.ls) (F2 P) 0) jL e8 G rfl e8 e8 e8) ?_)
 rintro _ pI ⟨il,iq,rfl,jO⟩
 have lK:=jN _ _ jO
 have nM:q7 (t6 (G0 C) B++((aP.mk b.aU (N1 bF bG b.aK.ls) (N1 aZ bg P) 0)::s0 (G0 C) B))=q7 (t6 (G0 C) a.ag.ls++((bB.mk b.aU (F2 b.aK.ls) (F2 P) 0)::s0 (G0 C) a.ag.ls)):=by exact aY (jJ (z:=(bB.mk b.aU (F2 b.aK.ls) (F2 P) 0)) G rfl)
 have nN:q7 (t6 (G0 C) a.ag.ls++((bB.mk b.aU (F2 b.aK.ls) (F2 P) 0)::s0 (G0 C) a.ag.ls))=a.ag.ls.length+1:=by simp only [o0,m8,r5,m9]; omega
 have iw:=lK.pf [2,3,4,5,6]
 refine⟨.inr ⟨_,iw⟩, ?_⟩
 refine qp h 0 21 rfl (qp h 18 22 rfl ?_)
 have lL:=iw.pf [4]
 refine qe 23 rfl (Do.store (vs:= [.slice il (q7 (t6 (G0 C) a.ag.ls++((bB.mk b.aU (F2 b.aK.ls) (F2 P) 0)::s0 (G0 C) a.ag.ls))) iq]) (o:=18) lL rfl rfl Tryz.sizeOf77 rfl rfl rfl rfl ?_)
 intro pJ iA
 refine⟨.inl e9, ?_⟩
 refine qn (Ib (H7 (sr (Mz rfl (Kz (vP bn 8) (Lz (vU b.aU) iA 1 E1 ?_))))))
 obtain⟨dn,dw⟩:=Bp (m:=(ax.mk (bA.mk a.aa.bC a.aa.aQ a.aa.bq a.aa.aJ a.aa.aD (F2 a.aa.ah.ls) (F2 a.aa.ak.ls) (F2 d.aa.af.ls) d.aa.bi a.aa.aI a.aa.aH a.aa.aC) (F2 a.ag.ls))) (rs:=r.ai.ls) (o:=b.aK.ls) (l:=P) f6 f6 aN aQ aD af (vG aK aO f9 f9 f9).1 e8 e8
 replace dn:Tk (t6 (G0 C) a.ag.ls++((bB.mk b.aU (F2 b.aK.ls) (F2 P) 0)::s0 (G0 C) a.ag.ls)) a.aa.ak.ls r.ai.ls:=dn
 replace dw:Gx b.aU (t6 (G0 C) a.ag.ls++((bB.mk b.aU (F2 b.aK.ls) (F2 P) 0)::s0 (G0 C) a.ag.ls)):=dw
 have lM:=iA.pb [0,13,14,5,6,3,4,10,11,1,12]
 obtain⟨⟨cz,av,ag,bi⟩,bT⟩:∃ q:Int × bI × ax × aW,fH T b.aU (ax.mk (bA.mk a.aa.bC a.aa.aQ a.aa.bq a.aa.aJ a.aa.aD (F2 a.aa.ah.ls) (F2 a.aa.ak.ls) (F2 d.aa.af.ls) d.aa.bi a.aa.aI a.aa.aH a.aa.aC) (F2 (t6 (G0 C) a.ag.ls++((bB.mk b.aU (F2 b.aK.ls) (F2 P) 0)::s0 (G0 C) a.ag.ls)))) g r=q:=⟨_,rfl⟩
 obtain⟨pK,jP,fE,jQ,nO⟩:=Jk lM
 refine cl Tryz.call83 (qc _ _ g0 T aL aM X bv aG ai ak b.aU h (ax.mk (bA.mk a.aa.bC a.aa.aQ a.aa.bq a.aa.aJ a.aa.aD (F2 a.aa.ah.ls) (F2 a.aa.ak.ls) (F2 d.aa.af.ls) d.aa.bi a.aa.aI a.aa.aH a.aa.aC) (F2 (t6 (G0 C) a.ag.ls++((bB.mk b.aU (F2 b.aK.ls) (F2 P) 0)::s0 (G0 C) a.ag.ls)))) U Q j p O aB aC il iq (t6 (G0 C) B++((aP.mk b.aU (N1 bF bG b.aK.ls) (N1 aZ bg P) 0)::s0 (G0 C) B)) R g V J S r K L E cz av ag bi jP W (fE _ cB) e8 N (jJ (z:=(bB.mk b.aU (F2 b.aK.ls) (F2 P) 0)) G rfl) (fE _ aA) e8 I f6 (by first | omega | exact Tk.n f6) (by first | omega | exact Tk.rows f6) f0 bT) ?_
 rintro _ pM ⟨iB,iC,iD,iE,iF,iG,iH,iI,iJ,iL,iM,iO,iP,iQ,rfl,jR,dx,dz,dD,dE⟩
 have bH:=jQ _ _ jR
 have nP:=aY dx
 have nQ:=aY dz
 have nR:=aY dD
 have nS:=aY dE
 have nT:=zr 1 bH
 have nU:=bH.rowCQ (i:=3) rfl
 have nV:=zr 5 bH
 have nW:=zr 7 bH
 have nX:=zr 11 bH
 obtain⟨fF,fG,fI,fJ,fK⟩:=goes dn dw i8 bT
 replace fF:Tk ag.ag.ls ag.aa.ak.ls bi.ai.ls:=fF
 replace fG:Gt ag.ag.ls:=fG
 replace fI:Li av.bE.ls bi.ai.ls:=fI
 replace fJ:av.av.bD.ls.length<=T.av.bD.ls.length+1:=fJ
 replace fK:jS av.bE.ls ag.ag.ls bi.ai.ls<=302:=fK
 refine An rfl (H7 ?_)
 have iR:=bH.px [] [13] []
 refine H8 (Mz rfl (fw (.bool (decide (¬ (cz=0)))) (Iu (e:= !(decide (cz=0))) yk decide_not.symm) (nt ?_)))
 by_cases dO:cz=0
 refine jF (dF (Lp dO)) (sk (sr (Mz rfl ?_)))
 obtain⟨⟨iT,fM,fP,iU⟩,fQ⟩:∃ q:Int × bI × ax × aW,ed (bI.mk (dH.mk (F2 av.av.bD.ls) (F2 T.av.aL.ls) T.av.bU) (F2 av.bE.ls)) (ax.mk (bA.mk a.aa.bC a.aa.aQ a.aa.bq a.aa.aJ a.aa.aD (F2 a.aa.ah.ls) (F2 ag.aa.ak.ls) (F2 d.aa.af.ls) d.aa.bi a.aa.aI a.aa.aH a.aa.aC) (F2 ag.ag.ls)) g bi=q:=⟨_,rfl⟩
 obtain⟨pO,jU,fT,jV,nY⟩:=Jk iR
 refine cl U0 (nI _ _ g0 (bI.mk (dH.mk (F2 av.av.bD.ls) (F2 T.av.aL.ls) T.av.bU) (F2 av.bE.ls)) iB iC iD bv aG iE iF h (ax.mk (bA.mk a.aa.bC a.aa.aQ a.aa.bq a.aa.aJ a.aa.aD (F2 a.aa.ah.ls) (F2 ag.aa.ak.ls) (F2 d.aa.af.ls) d.aa.bi a.aa.aI a.aa.aH a.aa.aC) (F2 ag.ag.ls)) U Q iG iH iI aB aC iJ iL iM R g V J S bi iO iP iQ iT fM fP iU jU dx (fT _ cB) e8 dz dD (fT _ aA) e8 dE f6 f6 f6 (by first | omega | exact Tk.n f6) (by first | omega | exact Tk.rows f6) f0 fQ) ?_
 rintro _ pQ ⟨lQ,lS,lT,lU,lV,lW,lY,lZ,l5,l6,l7,l8,l9,ma,rfl,jW,fU,fV,fZ,gm⟩
 have bJ:=jV _ _ jW
 have nZ:=aY fU
 have og:=aY fV
 have oh:=aY fZ
 have ol:=aY gm
 have om:=zr 1 bJ
 have oo:=bJ.rowCQ (i:=3) rfl
 have ou:=zr 5 bJ
 have ow:=zr 7 bJ
 have oz:=zr 11 bJ
 refine An rfl (rt (rs ?_))
 have mf:=bJ.pb [7,8,9,10,11,12]
 obtain⟨rfl,rfl,rfl,rfl⟩:=gH (zj hr (show _=(iT,bI.mk (dH.mk (F2 fM.av.bD.ls) (F2 T.av.aL.ls) T.av.bU) (F2 fM.bE.ls),ax.mk (bA.mk a.aa.bC a.aa.aQ a.aa.bq a.aa.aJ a.aa.aD (F2 a.aa.ah.ls) (F2 fP.aa.ak.ls) (F2 d.aa.af.ls) d.aa.bi a.aa.aI a.aa.aH a.aa.aC) (F2 fP.ag.ls),iU) from et (ae aI) (et (ae aJ) (et (eF M) (et (iN bR) (et (ae aN) (et (eF aQ) (et (ae aD) (et (eF af) (et (ae aK) (et (eF aO) (et (ae aV) (et (ip bY) (et (ae bT) (et (ip dO) (ae fQ))))))))))))))))
 exact⟨lQ,lS,lT,lU,lV,lW,lY,lZ,aB,aC,l5,l6,l7,l8,l9,ma,rfl,mf,fU,fV,fZ,gm⟩
 refine jT (dT dO) (sr (Mz rfl (An rfl (rt (tR (rs ?_))))))
 have mg:=iR.pb [7,8,9,10,11,12]
 obtain⟨rfl,rfl,rfl,rfl⟩:=gH (zj hr (show _=(cz,bI.mk (dH.mk (F2 av.av.bD.ls) (F2 T.av.aL.ls) T.av.bU) (F2 av.bE.ls),ax.mk (bA.mk a.aa.bC a.aa.aQ a.aa.bq a.aa.aJ a.aa.aD (F2 a.aa.ah.ls) (F2 ag.aa.ak.ls) (F2 d.aa.af.ls) d.aa.bi a.aa.aI a.aa.aH a.aa.aC) (F2 ag.ag.ls),bi) from et (ae aI) (et (ae aJ) (et (eF M) (et (iN bR) (et (ae aN) (et (eF aQ) (et (ae aD) (et (eF af) (et (ae aK) (et (eF aO) (et (ae aV) (et (ip bY) (et (ae bT) (iN dO)))))))))))))))
 exact⟨iB,iC,iD,iE,iF,iG,iH,iI,aB,aC,iJ,iL,iM,iO,iP,iQ,rfl,mg,dx,dz,dD,dE⟩
 refine jT (dT bY) (sr (Mz rfl (An rfl (rt (tR (rs ?_))))))
 have mh:=fC.px [] [0,1] [11,14,15,6,7,8,9]
 obtain⟨rfl,rfl,rfl,rfl⟩:=gH (zj hr (show _=(bE,T,ax.mk (bA.mk a.aa.bC a.aa.aQ a.aa.bq a.aa.aJ a.aa.aD (F2 a.aa.ah.ls) (F2 a.aa.ak.ls) (F2 d.aa.af.ls) d.aa.bi a.aa.aI a.aa.aH a.aa.aC) (F2 a.ag.ls),r) from et (ae aI) (et (ae aJ) (et (eF M) (et (iN bR) (et (ae aN) (et (eF aQ) (et (ae aD) (et (eF af) (et (ae aK) (et (eF aO) (et (ae aV) (iN bY))))))))))))).symm
 exact⟨aL,aM,X,ai,ak,j,p,O,aB,aC,F,u,B,K,L,E,rfl,mh,W,N,G,I⟩
def iY (e:bI) (g:dL) (a:ax) (l:StoreT) (f:aW):Int × bI × ax × aW:=
 bnd (d9 a g.aU) λ b=>bnd (bX a g.aU) λ q=>if b.2=true then bnd (List.getD a.aa.ak.ls (G0 b.1) default) λ o=>bnd (if g.ik=true then bnd (jw (bI.mk (dH.mk (F2 (e.av.bD.ls++ [(dL.mk 6 a.aa.bC 0 0 0 0 0 0 g.aU 0 0 0 0 0 0 false (aj.mk [] []) (F2 []) (F2 []) (F2 []))])) (F2 e.av.aL.ls) e.av.bU) (F2 e.bE.ls)) o.aK.ls (ax.mk (bA.mk a.aa.bC a.aa.aQ a.aa.bq a.aa.aJ a.aa.aD (F2 a.aa.ah.ls) (F2 (t6 (G0 b.1) a.aa.ak.ls++s0 ((G0 b.1)+1) a.aa.ak.ls)) (F2 a.aa.af.ls) a.aa.bi a.aa.aI a.aa.aH a.aa.aC) (F2 a.ag.ls))) λ p=>p.av.aL.ls else e.av.aL.ls) λ sJrbbtbJ=>bnd (dZ (ax.mk (bA.mk a.aa.bC a.aa.aQ a.aa.bq a.aa.aJ a.aa.aD (F2 a.aa.ah.ls) (F2 (t6 (G0 b.1) a.aa.ak.ls++s0 ((G0 b.1)+1) a.aa.ak.ls)) (F2 a.aa.af.ls) a.aa.bi a.aa.aI a.aa.aH a.aa.aC) (F2 a.ag.ls)) g.aU) λ h=>bnd (gQ (ax.mk (bA.mk a.aa.bC a.aa.aQ a.aa.bq a.aa.aJ a.aa.aD (F2 a.aa.ah.ls) (F2 (t6 (G0 b.1) a.aa.ak.ls++s0 ((G0 b.1)+1) a.aa.ak.ls)) (F2 a.aa.af.ls) a.aa.bi a.aa.aI a.aa.aH a.aa.aC) (F2 h.ag.ls)) g.aU) λ i=>bnd (fo (bI.mk (dH.mk (F2 (e.av.bD.ls++ [(dL.mk 6 a.aa.bC 0 0 0 0 0 0 g.aU 0 0 0 0 0 0 false (aj.mk [] []) (F2 []) (F2 []) (F2 []))])) (F2 sJrbbtbJ) e.av.bU) (F2 e.bE.ls)) g.aU (ax.mk (bA.mk a.aa.bC a.aa.aQ a.aa.bq a.aa.aJ a.aa.aD (F2 a.aa.ah.ls) (F2 (t6 (G0 b.1) a.aa.ak.ls++s0 ((G0 b.1)+1) a.aa.ak.ls)) (F2 i.aa.af.ls) a.aa.bi a.aa.aI a.aa.aH a.aa.aC) (F2 h.ag.ls)) f) λ m=>bnd (ed (bI.mk (dH.mk (F2 (e.av.bD.ls++ [(dL.mk 6 a.aa.bC 0 0 0 0 0 0 g.aU 0 0 0 0 0 0 false (aj.mk [] []) (F2 []) (F2 []) (F2 []))])) (F2 sJrbbtbJ) e.av.bU) (F2 m.1.bE.ls)) (ax.mk (bA.mk a.aa.bC a.aa.aQ a.aa.bq a.aa.aJ a.aa.aD (F2 a.aa.ah.ls) (F2 (t6 (G0 b.1) a.aa.ak.ls++s0 ((G0 b.1)+1) a.aa.ak.ls)) (F2 i.aa.af.ls) a.aa.bi a.aa.aI a.aa.aH a.aa.aC) (F2 h.ag.ls)) l m.2) λ c=>(c.1,bI.mk (dH.mk (F2 c.2.1.av.bD.ls) (F2 sJrbbtbJ) e.av.bU) (F2 c.2.1.bE.ls),ax.mk (bA.mk a.aa.bC a.aa.aQ a.aa.bq a.aa.aJ a.aa.aD (F2 a.aa.ah.ls) (F2 c.2.2.1.aa.ak.ls) (F2 i.aa.af.ls) a.aa.bi a.aa.aI a.aa.aH a.aa.aC) (F2 c.2.2.1.ag.ls),c.2.2.2) else if q.2=true then bnd (dZ a g.aU) λ j=>bnd (gQ (ax.mk a.aa (F2 j.ag.ls)) g.aU) λ k=>bnd (fo (bI.mk (dH.mk (F2 (e.av.bD.ls++ [(dL.mk 6 a.aa.bC 0 0 0 0 0 0 g.aU 0 0 0 0 0 0 false (aj.mk [] []) (F2 []) (F2 []) (F2 []))])) (F2 e.av.aL.ls) e.av.bU) (F2 e.bE.ls)) g.aU (ax.mk (bA.mk a.aa.bC a.aa.aQ a.aa.bq a.aa.aJ a.aa.aD (F2 a.aa.ah.ls) (F2 a.aa.ak.ls) (F2 k.aa.af.ls) a.aa.bi a.aa.aI a.aa.aH a.aa.aC) (F2 j.ag.ls)) f) λ n=>bnd (ed (bI.mk (dH.mk (F2 (e.av.bD.ls++ [(dL.mk 6 a.aa.bC 0 0 0 0 0 0 g.aU 0 0 0 0 0 0 false (aj.mk [] []) (F2 []) (F2 []) (F2 []))])) (F2 e.av.aL.ls) e.av.bU) (F2 n.1.bE.ls)) (ax.mk (bA.mk a.aa.bC a.aa.aQ a.aa.bq a.aa.aJ a.aa.aD (F2 a.aa.ah.ls) (F2 a.aa.ak.ls) (F2 k.aa.af.ls) a.aa.bi a.aa.aI a.aa.aH a.aa.aC) (F2 j.ag.ls)) l n.2) λ d=>(d.1,bI.mk (dH.mk (F2 d.2.1.av.bD.ls) (F2 e.av.aL.ls) e.av.bU) (F2 d.2.1.bE.ls),ax.mk (bA.mk a.aa.bC a.aa.aQ a.aa.bq a.aa.aJ a.aa.aD (F2 a.aa.ah.ls) (F2 d.2.2.1.aa.ak.ls) (F2 k.aa.af.ls) a.aa.bi a.aa.aI a.aa.aH a.aa.aC) (F2 d.2.2.1.ag.ls),d.2.2.2) else(0,bI.mk (dH.mk (F2 (e.av.bD.ls++ [(dL.mk 6 a.aa.bC 0 0 0 0 0 0 g.aU 0 0 0 0 0 0 false (aj.mk [] []) (F2 []) (F2 []) (F2 []))])) (F2 e.av.aL.ls) e.av.bU) (F2 e.bE.ls),a,f)
theorem vZ (w D V) (u:bI) (gu gy Z ak ah au av) (d:dL) (bG gz bH bJ gB bK bT bN gD bR g) (a:ax) (z B r E p F G O L R h) (j:StoreT) (S I l) (C:aW) (M N J r0) (r1:bI) (r2:ax) (r3:aW) (H:Own w D w [blk V [.pointer (some ⟨g,0,none⟩), .slice gu u.av.bD.ls.length gy, .slice ak u.av.aL.ls.length ah, .bool u.av.bU, .slice au u.bE.ls.length av] 92,row gu u.av.bD.ls.length gy (q2 bV.cells Z) 47 21,sepL (q2 IR Z),row ak u.av.aL.ls.length ah (q2 aX.cells u.av.aL.ls) 68 6,jv au u.bE.ls.length av (q2 dB.cells u.bE.ls) 216 2,blk g (kB a z a.aa.ah.ls.length B r a.aa.ak.ls.length E F a.aa.af.ls.length G a.aa.bi h O a.ag.ls.length L l) 80,row r a.aa.ak.ls.length E (q2 bf.cells p) 60 2,sepL (q2 IK p),row F a.aa.af.ls.length G (q2 (eN .u64) a.aa.af.ls) 32 1,row O a.ag.ls.length L (q2 aP.cells R) 99 4,sepL (q2 IA R),blk h [.slice S j.xM.ls.length I] 27,blk l [.slice M C.ai.ls.length N] 114,row M C.ai.ls.length N (q2 ay.cells J) 164 6,sepL (q2 Iy J)]) (aC:s1 bV.abs Z=u.av.bD.ls) (iq:gz=d.aK.ls.length) (mM:Ro w D λ w'=>bO w' 6 bG d.aK.ls.length (q2 aX.cells d.aK.ls)) (mO:d.aK.ls.length<=bH/\d.aK.ls.length<=9223372036854775807) (iw:s1 aR.abs bT=d.aV.ls) (iA:gB=d.aV.ls.length) (mP:Ro w D λ w'=>bO w' 3 bJ d.aV.ls.length (q2 aR.cells bT)) (mQ:d.aV.ls.length<=bK/\d.aV.ls.length<=9223372036854775807) (mR:∀ x ∈ bT,Ro w D (λ w'=>bO w' 2 x.bz.A x.bz.ls.length (q2 az.cells x.bz.ls))/\(x.bz.ls.length<=x.bz.c/\x.bz.ls.length<=9223372036854775807)) (iB:gD=d.ah.ls.length) (mU:Ro w D λ w'=>bO w' 2 bN d.ah.ls.length (q2 bM.cells d.ah.ls)) (mV:d.ah.ls.length<=bR/\d.ah.ls.length<=9223372036854775807) (P:s1 bf.abs p=a.aa.ak.ls) (Y:s1 aP.abs R=a.ag.ls) (aD:Ro w D λ w'=>bO w' 2 S j.xM.ls.length (q2 az.cells j.xM.ls)) (iC:j.xM.ls.length<=I/\j.xM.ls.length<=9223372036854775807) (U:s1 ay.abs J=C.ai.ls) (qV:Tk a.ag.ls a.aa.ak.ls C.ai.ls) (qW:Gt a.ag.ls) (qX:u.bE.ls= []) (qY:a.ag.ls.length+a.aa.ak.ls.length<=6) (qZ:C.ai.ls.length<=6) (q8:u.bE.ls.length<=0/\u.av.bD.ls.length<=1000/\u.av.aL.ls.length<=100/\j.xM.ls.length<=4000/\a.aa.ah.ls.length<=1000/\a.aa.af.ls.length<=999) (q9: ¬ (d.aB=3)\/d.aK.ls.length<=24) (hr:iY u d a j C=(r0,r1,r2,r3)):
    Calls Tryz.prog 40 #[vP V 0, .agg (iy d.aB d.jo d.jU d.iq d.gp d.iZ d.gN d.aQ d.aU d.bi d.bq d.aJ d.aD d.bv d.xN d.ik d.aA.aN d.aA.aT bG gz bH bJ gB bK bN gD bR).toArray] w (dI λ v w'=> ∃ bU bY bi cz cB cK cO df dh bn di dm dn dw bq dx dz bv,v=vI r0/\Own w D w' [blk V [vP g 0, .slice bU r1.av.bD.ls.length bY, .slice cz r1.av.aL.ls.length cB, .bool u.av.bU, .slice cK r1.bE.ls.length cO] 92,row bU r1.av.bD.ls.length bY (q2 bV.cells bi) 47 21,sepL (q2 IR bi),row cz r1.av.aL.ls.length cB (q2 aX.cells r1.av.aL.ls) 68 6,jv cK r1.bE.ls.length cO (q2 dB.cells r1.bE.ls) 216 2,blk g (kB a z a.aa.ah.ls.length B df r2.aa.ak.ls.length dh di r2.aa.af.ls.length dm a.aa.bi h dn r2.ag.ls.length dw l) 80,row df r2.aa.ak.ls.length dh (q2 bf.cells bn) 60 2,sepL (q2 IK bn),row di r2.aa.af.ls.length dm (q2 (eN .u64) r2.aa.af.ls) 32 1,row dn r2.ag.ls.length dw (q2 aP.cells bq) 99 4,sepL (q2 IA bq),blk h [.slice S j.xM.ls.length I] 27,blk l [.slice dx r3.ai.ls.length dz] 114,row dx r3.ai.ls.length dz (q2 ay.cells bv) 164 6,sepL (q2 Iy bv)]/\(s1 bV.abs bi=r1.av.bD.ls)/\(s1 bf.abs bn=r2.aa.ak.ls)/\(s1 aP.abs bq=r2.ag.ls)/\(s1 ay.abs bv=r3.ai.ls)):=by
 subst iq iA iB
 have mI:=aY aC
 have mK:=aY iw
 have jN:=aY P
 have jO:=aY Y
 have gF:=aY U
 have mW:=zr 1 H
 have mY:=zr 3 H
 have mZ:=H.rowCQ (i:=4) rfl
 have jP:=zr 6 H
 have jQ:=zr 8 H
 have jR:=zr 9 H
 refine cb Tryz.func40 ?_
 refine sr ?_
 refine bW (lX d bG bH bJ bK bN bR) 47 H ?_
 intro ai rf jU
 refine Ar rfl (Mz rfl (Kz (vP ai 8) (Lz (vU d.aU) jU 0 E1 (Kz (.agg (iy 6 0 0 0 0 0 0 0 d.aU 0 0 0 0 0 0 false [] [] none 0 0 none 0 0 none 0 0).toArray) ?_))))
 refine WL.do rfl (IB Tryz.call81 rfl ?_ (λ _ _ k=>k))
 refine cb Tryz.func81 ?_
 refine sr ?_
 refine bW (iy 6 0 0 0 0 0 0 0 d.aU 0 0 0 0 0 0 false [] [] none 0 0 none 0 0 none 0 0) 47 jU ?_
 intro iD rq iE
 refine ns (Mz rfl (Kz (vP V 0) (Kz (vP V 0) (Lz (vP g 0) iE 2 Q8 (Kz (vP g 0) (Kz (vP g 0) (Kz (vP g 0) (Lz (vI a.aa.bC) iE 7 Tryz.isAgg3 (Kz (vP iD 1) ?_)))))))))
 refine cu [vI a.aa.bC] 1 iE Tryz.sizeOf3 ?_
 intro ru jV
 refine ns (Kz (vP iD 18) (Lz (.slice none 0 0) jV 0 E3 ?_))
 obtain⟨ry,jW,pW,jX,pX⟩:=Ia jV
 refine cl T6 (iK _ _ none 0 0 [] [] jW (λ _ _=>bO.nil _ _ _) rfl i3 rfl) ?_
 rintro _ rz ⟨W,X,rfl,jY⟩
 have jZ:=jX _ _ jY
 have pY:=zr 0 jZ
 refine Kz (vP iD 18) ?_
 have ng:=jZ.pf [1]
 refine cu [.slice W 0 X] 18 ng Tryz.sizeOf44 ?_
 intro rA ni
 refine nt ?_
 refine mJ 18 [8,12] Iw ni ?_
 intro rC nk
 refine IP (v:=vP V 0) 0 rfl e9 (λ _=>Ie rfl) (qv 1 rfl rfl (qp V 0 2 rfl (qp V 1 3 rfl (qp V 1 4 rfl (ql 5 rfl 3 Tryz.isAgg50 rfl rfl rfl (qt (v:= .agg (iy 6 a.aa.bC 0 0 0 0 0 0 d.aU 0 0 0 0 0 0 false [] [] W 0 X none 0 0 none 0 0).toArray) 6 rfl (λ _ ⟨_,H9⟩=>Il rfl (Io (cs:=(iy 6 a.aa.bC 0 0 0 0 0 0 d.aU 0 0 0 0 0 0 false [] [] W 0 X none 0 0 none 0 0)) H5 I0 ((H9.cls (i:=0) rfl).lit (k:=0) (m:=21) rfl))) ?_))))))
 refine qd 7 rfl (IZ (cs:=(iy 6 a.aa.bC 0 0 0 0 0 0 d.aU 0 0 0 0 0 0 false [] [] W 0 X none 0 0 none 0 0)) (t:=47) (sz:=21) (m:=1) nk rfl rfl (λ _=>by kernel_rfl) rfl f5 ?_)
 intro nu iF iG
 replace iG:=IL (y:=row nu 1 1 (q2 bV.cells ([(bV.mk 6 a.aa.bC 0 0 0 0 0 0 d.aU 0 0 0 0 0 0 false (aj.mk [] []) (N1 W X []) (N1 none 0 []) (N1 none 0 []))])) 47 21) rfl iG
 have j3:=iG.pb [0]
 refine⟨.inr ⟨_,j3⟩, ?_⟩
 have ny:Own w D iF (sepL (q2 IJ [])::_):=j3.sepNil
 have nz:Own w D iF (row none 0 0 (q2 aR.cells []) 70 3::_):=ny.free (bZ 70 3)
 have nA:Own w D iF (row none 0 0 (q2 bM.cells []) 83 2::_):=nz.free (bZ 83 2)
 have j4:=nA.pf [7,8,4,1]
 refine qd 8 rfl (IC (k:=u.av.bD.ls.length) (m:=1) (sK) j4 rfl rfl (eY R6 (j4.rds (i:=21) rfl) (cZ bV.one ([(bV.mk 6 a.aa.bC 0 0 0 0 0 0 d.aU 0 0 0 0 0 0 false (aj.mk [] []) (N1 W X []) (N1 none 0 []) (N1 none 0 []))]))) rfl e8 (s:=q7 (u.av.bD.ls++ [(dL.mk 6 a.aa.bC 0 0 0 0 0 0 d.aU 0 0 0 0 0 0 false (aj.mk [] []) (F2 []) (F2 []) (F2 []))])) f3 (t7).symm ?_)
 intro aT aU nC nD
 have nE:=nD.pf [1,2,3,4,5]
 have nG:Own w D nC (sepL (q2 IR (Z++ [(bV.mk 6 a.aa.bC 0 0 0 0 0 0 d.aU 0 0 0 0 0 0 false (aj.mk [] []) (N1 W X []) (N1 none 0 []) (N1 none 0 []))]))::_):=nE.sepAdd (L2:= [row W 0 X (q2 aX.cells []) 68 6,row none 0 0 (q2 aR.cells []) 70 3,row none 0 0 (q2 bM.cells []) 83 2,sepL (q2 IJ [])]) (t7 (f:=IR) (xs:=Z) (ys:= [(bV.mk 6 a.aa.bC 0 0 0 0 0 0 d.aU 0 0 0 0 0 0 false (aj.mk [] []) (N1 W X []) (N1 none 0 []) (N1 none 0 []))])).symm
 have p8:q7 (u.av.bD.ls++ [(dL.mk 6 a.aa.bC 0 0 0 0 0 0 d.aU 0 0 0 0 0 0 false (aj.mk [] []) (F2 []) (F2 []) (F2 []))])=u.av.bD.ls.length+1:=by simp only [o0,r5,K1]
 have p9:=aY (jI (es:= [(bV.mk 6 a.aa.bC 0 0 0 0 0 0 d.aU 0 0 0 0 0 0 false (aj.mk [] []) (N1 W X []) (N1 none 0 []) (N1 none 0 []))]) (ms:= [(dL.mk 6 a.aa.bC 0 0 0 0 0 0 d.aU 0 0 0 0 0 0 false (aj.mk [] []) (F2 []) (F2 []) (F2 []))]) aC rfl)
 refine⟨.inl e9, ?_⟩
 refine IP (v:=vP V 0) 9 rfl e9 (λ _=>yk) (IP (v:=vP V 1) 10 rfl e9 (λ _=>yk) (IP (v:=vP V 1) 11 rfl e9 (λ _=>yk) ?_))
 have nH:=nG.pf [4]
 refine qe 12 rfl (Do.store (vs:= [.slice aT (q7 (u.av.bD.ls++ [(dL.mk 6 a.aa.bC 0 0 0 0 0 0 d.aU 0 0 0 0 0 0 false (aj.mk [] []) (F2 []) (F2 []) (F2 []))])) aU]) (o:=1) nH rfl rfl Tryz.sizeOf50 rfl rfl rfl rfl ?_)
 intro rE nJ
 refine⟨.inl e9, ?_⟩
 refine qn (IV (res0 rfl) (nt (H7 ?_)))
 have nK:=nJ.px [] [3,17] []
 refine mJ 16 [] (Ik Iw) nK ?_
 intro rF nL
 refine qv 0 rfl rfl (qp V 0 1 rfl (qp V 0 2 rfl (ql 3 rfl 0 Q8 rfl rfl rfl (qp ai 8 4 rfl (ql 5 rfl 3 E1 rfl rfl rfl ?_)))))
 have iH:=nL.pf [6]
 have qb:=zr 7 iH
 obtain⟨⟨b,bz⟩,aL⟩:∃ q:Int × Bool,d9 a d.aU=q:=⟨_,rfl⟩
 obtain⟨rG,j5,qc,j6,gG⟩:=IE iH
 refine qd 6 rfl (IB Tryz.call77 rfl (mX _ _ g a z B r E p F G O L h l d.aU b bz j5 P (gG _ 6 _ rfl bP) e8 (λ x9 h9=>⟨gG _ 7 _ rfl (bL (O3.2 ⟨x9,h9,b3⟩) bP),dC (φ:=λ _=>_) iH (i:=8) rfl (bL (O3.2 ⟨x9,h9,b3⟩) dK)⟩) f0 aL) ?_)
 rintro _ rH ⟨rfl,kg,gI,gJ⟩
 have nM:=j6 _ _ kg
 replace gI:0<=b/\b<=(a.aa.ak.ls.length:Int):=gI
 replace gJ:Bool.toNat bz=0\/b < (a.aa.ak.ls.length:Int):=gJ
 have kr:=nM.pf [1,2,3,4,5,6]
 refine⟨.inr ⟨_,kr⟩, ?_⟩
 refine qv 7 rfl rfl (qk (vI b) 8 rfl (qk (.bool bz) 9 rfl (qa 10 rfl rfl (qa 11 rfl rfl (qn (Ib (H7 ?_)))))))
 refine mJ 16 [] (Ik Iw) kr ?_
 intro rJ nN
 refine qv 0 rfl rfl (qp V 0 1 rfl (qp V 0 2 rfl (ql 3 rfl 0 Q8 rfl rfl rfl (qp ai 8 4 rfl (ql 5 rfl 3 E1 rfl rfl rfl ?_)))))
 have gq:=nN.pf [6]
 have qf:=zr 10 gq
 obtain⟨⟨dA,aV⟩,bS⟩:∃ q:Int × Bool,bX a d.aU=q:=⟨_,rfl⟩
 obtain⟨rM,ku,qg,kv,dD⟩:=IE gq
 refine qd 6 rfl (IB Tryz.call79 rfl (je _ _ g a z B r E F G O L R h l d.aU dA aV ku Y (dD _ 9 _ rfl bP) e8 (λ x9 h9=>⟨dD _ 10 _ rfl (bL (O3.2 ⟨x9,h9,b3⟩) bP),dC (φ:=λ _=>_) gq (i:=11) rfl (bL (O3.2 ⟨x9,h9,b3⟩) dK),dD _ 10 _ rfl (bL (O3.2 ⟨x9,h9, .tail _ b3⟩) bP),dC (φ:=λ _=>_) gq (i:=11) rfl (bL (O3.2 ⟨x9,h9, .tail _ b3⟩) dK)⟩) f0 bS) ?_)
 rintro _ rO ⟨rfl,kw,gK,gL⟩
 have nO:=kv _ _ kw
 replace gK:0<=dA/\dA<=(a.ag.ls.length:Int):=gK
 replace gL:Bool.toNat aV=0\/dA < (a.ag.ls.length:Int):=gL
 have aa:=nO.pf [1,2,3,4,5,6]
 refine⟨.inr ⟨_,aa⟩, ?_⟩
 refine qv 7 rfl rfl (qk (vI dA) 8 rfl (qk (.bool aV) 9 rfl (qa 10 rfl rfl (qa 11 rfl rfl (qn (Ib (H7 (sr (Mz rfl (Kz (.bool (!bz)) (Mz rfl ?_)))))))))))
 rcases Lr (bz) with Q | Q
 have h101t:Bool.toNat bz=1:=by rw [Q]; rfl
 refine Sz (cn Q) (Sz (cn Q) (fw (.bool false) (H6 rfl (cn Q) rfl) (nt (jf (sk (H7 (sr (Mn rfl (jT Q (sr (Mz rfl (Kz (vP V 0) (Kz (vP V 0) (Lz (vP g 0) aa 0 Q8 (Kz (vP g 0) (Kz (vP g 0) (Kz (vP g 6) (Lz (.slice r a.aa.ak.ls.length E) aa 6 D3 (fw (vJ (G0 b)) (Ig (e:=b) (Ie rfl) e8) ?_)))))))))))))))))))
 obtain⟨K,aZ⟩:=dG (ls:=p) (i:=G0 b) bf.len f5 (aa.rds (i:=7) rfl) f2
 have dE:=fO P aZ
 have nP:K.aK.ls.length<=K.aK.c/\K.aK.ls.length<=9223372036854775807:=dC aa (i:=8) rfl (φ:=λ _=>_) (bL (O3.2 ⟨K,D4 aZ,b3⟩) dK)
 have nQ:K.aK.ls.length<=24:=Ku (hs:=a.aa.ak.ls) f6 dE
 refine fw (.pointer (some ⟨ab r,ao r+(G0 b) *2,none⟩)) (Im (ko) rfl rfl ((aa.rds (i:=7) rfl).addr (i:=G0 b) e8) e8) (Kz (.pointer (some ⟨ab r,ao r+(G0 b) *2+1,none⟩)) (fw (.slice K.aK.A K.aK.ls.length K.aK.c) (Il rfl (bQ.one E3 (((aa.rds (i:=7) rfl).elem bf.len aZ f5).at_ (k:=1) rfl))) (An rfl (H7 ?_))))
 have ky:=aa.pf [0,3,6,12,13]
 refine EP [19] (Ik (Ik Iw)) ky ?_
 intro qh kz
 refine qv 0 rfl rfl (qp V 0 1 rfl (qp V 0 2 rfl (ql 3 rfl 0 Q8 rfl rfl rfl (qv 4 rfl rfl (qp V 0 5 rfl (qp V 0 6 rfl (ql 7 rfl 0 Q8 rfl rfl rfl (qp g 0 8 rfl (qp g 0 9 rfl (qp g 6 10 rfl (ql 11 rfl 2 D3 rfl rfl rfl (qv 12 rfl rfl (qv 13 rfl rfl (qt (v:=vI (b+1)) 14 rfl (λ _ _=>Ig (e:=IntKind.i64.wrap (b+1)) yk i5) ?_))))))))))))))
 have kC:=kz.pf [9,10]
 obtain⟨qi,iL,nR,iM,nS⟩:=IX kC
 refine qd 15 rfl (IB Tryz.call85 rfl (zx _ _ r a.aa.ak.ls.length E p a.aa.ak.ls b (b+1) (G0 b) K iL e8 P e8 e8 e8 aZ) ?_)
 rintro _ qj ⟨aA,aB,rfl,iN⟩
 have gM:=iM _ _ iN
 have nT:q7 (t6 (G0 b) p++s0 ((G0 b)+1) p)=q7 (t6 (G0 b) a.aa.ak.ls++s0 ((G0 b)+1) a.aa.ak.ls):=by exact aY (nU P)
 have nV:q7 (t6 (G0 b) a.aa.ak.ls++s0 ((G0 b)+1) a.aa.ak.ls)+1=a.aa.ak.ls.length:=by simp only [o0,m8,m9]; omega
 have nW:=zr 2 gM
 have gN:=gM.pf [3,4,5,6,7]
 refine⟨.inr ⟨_,gN⟩, ?_⟩
 refine qp g 0 16 rfl (qp g 0 17 rfl (qp g 6 18 rfl ?_))
 have kD:=gN.pf [2]
 refine qe 19 rfl (Do.store (vs:= [.slice aA (q7 (t6 (G0 b) a.aa.ak.ls++s0 ((G0 b)+1) a.aa.ak.ls)) aB]) (o:=6) kD rfl rfl Tryz.sizeOf34 rfl rfl rfl rfl ?_)
 intro qm dF
 refine⟨.inl e9, ?_⟩
 refine qn (Ib (sr (Kz (vP ai 15) (Lz (.bool d.ik) dF 2 Tryz.isAgg4 (nt ?_)))))
 obtain⟨kE,bB⟩:=yu λ aM (aF:Nat) T w'=>Own w D w' [blk g (kB a z a.aa.ah.ls.length B aA (q7 (t6 (G0 b) a.aa.ak.ls++s0 ((G0 b)+1) a.aa.ak.ls)) aB F a.aa.af.ls.length G a.aa.bi h O a.ag.ls.length L l) 80,blk V [vP g 0, .slice aT (q7 (u.av.bD.ls++ [(dL.mk 6 a.aa.bC 0 0 0 0 0 0 d.aU 0 0 0 0 0 0 false (aj.mk [] []) (F2 []) (F2 []) (F2 []))])) aU, .slice aM T.length aF, .bool u.av.bU, .slice au u.bE.ls.length av] 92,blk ai (lX d bG bH bJ bK bN bR) 47,blk h [.slice S j.xM.ls.length I] 27,blk l [.slice M C.ai.ls.length N] 114,row aA (q7 (t6 (G0 b) a.aa.ak.ls++s0 ((G0 b)+1) a.aa.ak.ls)) aB (q2 bf.cells (t6 (G0 b) p++s0 ((G0 b)+1) p)) 60 2,sepL (q2 IK (t6 (G0 b) p++s0 ((G0 b)+1) p)),row K.aK.A K.aK.ls.length K.aK.c (q2 aX.cells K.aK.ls) 68 6,sepL (q2 IR (Z++ [(bV.mk 6 a.aa.bC 0 0 0 0 0 0 d.aU 0 0 0 0 0 0 false (aj.mk [] []) (N1 W X []) (N1 none 0 []) (N1 none 0 []))])),row aT (q7 (u.av.bD.ls++ [(dL.mk 6 a.aa.bC 0 0 0 0 0 0 d.aU 0 0 0 0 0 0 false (aj.mk [] []) (F2 []) (F2 []) (F2 []))])) aU (q2 bV.cells (Z++ [(bV.mk 6 a.aa.bC 0 0 0 0 0 0 d.aU 0 0 0 0 0 0 false (aj.mk [] []) (N1 W X []) (N1 none 0 []) (N1 none 0 []))])) 47 21,jv au u.bE.ls.length av (q2 dB.cells u.bE.ls) 216 2,row F a.aa.af.ls.length G (q2 (eN .u64) a.aa.af.ls) 32 1,row O a.ag.ls.length L (q2 aP.cells R) 99 4,sepL (q2 IA R),row M C.ai.ls.length N (q2 ay.cells J) 164 6,sepL (q2 Iy J),row aM T.length aF (q2 aX.cells T) 68 6]/\T.length<=200/\(if d.ik=true then bnd (jw (bI.mk (dH.mk (F2 (u.av.bD.ls++ [(dL.mk 6 a.aa.bC 0 0 0 0 0 0 d.aU 0 0 0 0 0 0 false (aj.mk [] []) (F2 []) (F2 []) (F2 []))])) (F2 u.av.aL.ls) u.av.bU) (F2 u.bE.ls)) K.aK.ls (ax.mk (bA.mk a.aa.bC a.aa.aQ a.aa.bq a.aa.aJ a.aa.aD (F2 a.aa.ah.ls) (F2 (t6 (G0 b) a.aa.ak.ls++s0 ((G0 b)+1) a.aa.ak.ls)) (F2 a.aa.af.ls) a.aa.bi a.aa.aI a.aa.aH a.aa.aC) (F2 a.ag.ls))) λ iO=>iO.av.aL.ls else u.av.aL.ls)=T
 refine Jl (λ i:(Option Addr) × Nat × (List aX)=> [(4,vI 0),(3,vP ai 0),(0,vP V 0)]) kE ?_ ?_
 rcases Lr (d.ik) with bg | bg
 refine jT bg (H8 (Mz rfl (Mz rfl ?_)))
 have kF:=dF.pf [1,10]
 obtain⟨dJ,dM⟩:∃ q,jw (bI.mk (dH.mk (F2 (u.av.bD.ls++ [(dL.mk 6 a.aa.bC 0 0 0 0 0 0 d.aU 0 0 0 0 0 0 false (aj.mk [] []) (F2 []) (F2 []) (F2 []))])) (F2 u.av.aL.ls) u.av.bU) (F2 u.bE.ls)) K.aK.ls (ax.mk (bA.mk a.aa.bC a.aa.aQ a.aa.bq a.aa.aJ a.aa.aD (F2 a.aa.ah.ls) (F2 (t6 (G0 b) a.aa.ak.ls++s0 ((G0 b)+1) a.aa.ak.ls)) (F2 a.aa.af.ls) a.aa.bi a.aa.aI a.aa.aH a.aa.aC) (F2 a.ag.ls))=q:=⟨_,rfl⟩
 obtain⟨qo,iP,nX,iQ,iR⟩:=Jb kF
 refine cl Tryz.call86 (vY _ _ V (bI.mk (dH.mk (F2 (u.av.bD.ls++ [(dL.mk 6 a.aa.bC 0 0 0 0 0 0 d.aU 0 0 0 0 0 0 false (aj.mk [] []) (F2 []) (F2 []) (F2 []))])) (F2 u.av.aL.ls) u.av.bU) (F2 u.bE.ls)) aT aU ak ah au av K.aK.A K.aK.ls.length K.aK.c K.aK.ls g (ax.mk (bA.mk a.aa.bC a.aa.aQ a.aa.bq a.aa.aJ a.aa.aD (F2 a.aa.ah.ls) (F2 (t6 (G0 b) a.aa.ak.ls++s0 ((G0 b)+1) a.aa.ak.ls)) (F2 a.aa.af.ls) a.aa.bi a.aa.aI a.aa.aH a.aa.aC) (F2 a.ag.ls)) z B aA aB F G O L h l dJ iP (iR _ 5 _ rfl bP) rfl e8 f0 dM) ?_
 rintro _ qx ⟨kG,kH,rfl,iT,dN⟩
 have gP:=iQ _ _ iT
 have nY:=zr 1 gP
 replace dN:dJ.av.aL.ls.length<=u.av.aL.ls.length+K.aK.ls.length:=dN
 refine WL.nil ?_
 have kI:=gP.px [2] [] [1]
 exact I1 (kG,kH,dJ.av.aL.ls) ⟨rfl,rfl,rfl,trivial⟩ (bB.2 ⟨kI,e8,et (ip bg) (ae dM)⟩)
 refine jF bg (IG ?_)
 have kJ:=dF.pb [10]
 exact I1 (ak,ah,u.av.aL.ls) ⟨rfl,rfl,rfl,trivial⟩ (bB.2 ⟨kJ,e8,eF bg⟩)
 rintro ⟨aM,aF,T⟩ qy iU
 show Wp _ _ _ [(4,vI 0),(3,vP ai 0),(0,vP V 0)] _ _
 obtain⟨kK,nZ,iV⟩:=bB.1 iU
 refine H7 ?_
 have kL:=kK.px [] [7] []
 have kM:=kL.pb [0,5,6,10,11,12]
 refine mJ 10 [] (Ik Iw) kM ?_
 intro qz kN
 refine qv 0 rfl rfl (qp V 0 1 rfl (qp V 0 2 rfl (ql 3 rfl 0 Q8 rfl rfl rfl (qp ai 8 4 rfl (ql 5 rfl 1 E1 rfl rfl rfl ?_)))))
 have kP:=kN.pf [10,14,15]
 obtain⟨af,bC⟩:∃ q,dZ (ax.mk (bA.mk a.aa.bC a.aa.aQ a.aa.bq a.aa.aJ a.aa.aD (F2 a.aa.ah.ls) (F2 (t6 (G0 b) a.aa.ak.ls++s0 ((G0 b)+1) a.aa.ak.ls)) (F2 a.aa.af.ls) a.aa.bi a.aa.aI a.aa.aH a.aa.aC) (F2 a.ag.ls)) d.aU=q:=⟨_,rfl⟩
 obtain⟨qA,iW,og,iX,oh⟩:=Jb kP
 refine qd 6 rfl (IB Tryz.call87 rfl (mh _ _ g (ax.mk (bA.mk a.aa.bC a.aa.aQ a.aa.bq a.aa.aJ a.aa.aD (F2 a.aa.ah.ls) (F2 (t6 (G0 b) a.aa.ak.ls++s0 ((G0 b)+1) a.aa.ak.ls)) (F2 a.aa.af.ls) a.aa.bi a.aa.aI a.aa.aH a.aa.aC) (F2 a.ag.ls)) z B aA aB F G O L R h l d.aU af iW Y f0 bC) ?_)
 rintro _ qB ⟨dO,dP,kQ,rfl,iZ,dQ⟩
 have gT:=iX _ _ iZ
 have ol:=aY dQ
 have om:=zr 1 gT
 have gU:=gT.pb [0,1,2,13,14,15]
 refine⟨.inr ⟨_,gU⟩, ?_⟩
 refine qn (Ib (H7 ?_))
 refine mJ 10 [] (Ik Iw) gU ?_
 intro qC kR
 refine qv 0 rfl rfl (qp V 0 1 rfl (qp V 0 2 rfl (ql 3 rfl 0 Q8 rfl rfl rfl (qp ai 8 4 rfl (ql 5 rfl 1 E1 rfl rfl rfl ?_)))))
 have kS:=kR.pf [10,15]
 obtain⟨aG,dR⟩:∃ q,gQ (ax.mk (bA.mk a.aa.bC a.aa.aQ a.aa.bq a.aa.aJ a.aa.aD (F2 a.aa.ah.ls) (F2 (t6 (G0 b) a.aa.ak.ls++s0 ((G0 b)+1) a.aa.ak.ls)) (F2 a.aa.af.ls) a.aa.bi a.aa.aI a.aa.aH a.aa.aC) (F2 af.ag.ls)) d.aU=q:=⟨_,rfl⟩
 obtain⟨qD,ja,oo,jb,oq⟩:=IX kS
 refine qd 6 rfl (IB Tryz.call88 rfl (qw _ _ g (ax.mk (bA.mk a.aa.bC a.aa.aQ a.aa.bq a.aa.aJ a.aa.aD (F2 a.aa.ah.ls) (F2 (t6 (G0 b) a.aa.ak.ls++s0 ((G0 b)+1) a.aa.ak.ls)) (F2 a.aa.af.ls) a.aa.bi a.aa.aI a.aa.aH a.aa.aC) (F2 af.ag.ls)) z B aA aB F G dO dP h l d.aU aG ja f0 dR) ?_)
 rintro _ qE ⟨dS,dU,rfl,jc,dV⟩
 have gV:=jb _ _ jc
 have ou:=zr 1 gV
 replace dV:aG.aa.af.ls.length<=a.aa.af.ls.length+1:=dV
 have dW:=gV.pb [0,1,12,13,14,15]
 refine⟨.inr ⟨_,dW⟩, ?_⟩
 refine qn (Ib (sr (Mz rfl (Kz (vP ai 8) (Lz (vU d.aU) dW 1 E1 ?_)))))
 have kT:=dW.pf [0,6,10,3,7,8]
 obtain⟨⟨aH,aN⟩,bD⟩:∃ q:bI × aW,fo (bI.mk (dH.mk (F2 (u.av.bD.ls++ [(dL.mk 6 a.aa.bC 0 0 0 0 0 0 d.aU 0 0 0 0 0 0 false (aj.mk [] []) (F2 []) (F2 []) (F2 []))])) (F2 T) u.av.bU) (F2 u.bE.ls)) d.aU (ax.mk (bA.mk a.aa.bC a.aa.aQ a.aa.bq a.aa.aJ a.aa.aD (F2 a.aa.ah.ls) (F2 (t6 (G0 b) a.aa.ak.ls++s0 ((G0 b)+1) a.aa.ak.ls)) (F2 aG.aa.af.ls) a.aa.bi a.aa.aI a.aa.aH a.aa.aC) (F2 af.ag.ls)) C=q:=⟨_,rfl⟩
 obtain⟨qF,jd,ow,jg,oz⟩:=Je kT
 refine cl Tryz.call89 (oF _ _ V (bI.mk (dH.mk (F2 (u.av.bD.ls++ [(dL.mk 6 a.aa.bC 0 0 0 0 0 0 d.aU 0 0 0 0 0 0 false (aj.mk [] []) (F2 []) (F2 []) (F2 []))])) (F2 T) u.av.bU) (F2 u.bE.ls)) aT aU aM aF au av d.aU g (ax.mk (bA.mk a.aa.bC a.aa.aQ a.aa.bq a.aa.aJ a.aa.aD (F2 a.aa.ah.ls) (F2 (t6 (G0 b) a.aa.ak.ls++s0 ((G0 b)+1) a.aa.ak.ls)) (F2 aG.aa.af.ls) a.aa.bi a.aa.aI a.aa.aH a.aa.aC) (F2 af.ag.ls)) z B aA aB dS dU dO dP h l C M N J aH aN jd U f0 (by first | assumption | exact Tk.snd f6) bD) ?_
 rintro _ qG ⟨kU,kV,kW,kX,kY,rfl,jh,dX,dY⟩
 have ek:=jg _ _ jh
 have oC:=aY dX
 have oD:=ek.rowCQ (i:=1) rfl
 have oG:=zr 4 ek
 replace dY:aH.bE.ls.length<=u.bE.ls.length+24:=dY
 obtain⟨eu,eB,eD,eG⟩:=yS (m:=a) (m1:=(ax.mk (bA.mk a.aa.bC a.aa.aQ a.aa.bq a.aa.aJ a.aa.aD (F2 a.aa.ah.ls) (F2 (t6 (G0 b) a.aa.ak.ls++s0 ((G0 b)+1) a.aa.ak.ls)) (F2 a.aa.af.ls) a.aa.bi a.aa.aI a.aa.aH a.aa.aC) (F2 a.ag.ls))) (hs':=(t6 (G0 b) a.aa.ak.ls++s0 ((G0 b)+1) a.aa.ak.ls)) f6 f6 aL (.inl ⟨Q,rfl⟩) rfl bC i8 bD
 replace eu:Tk af.ag.ls (t6 (G0 b) a.aa.ak.ls++s0 ((G0 b)+1) a.aa.ak.ls) aN.ai.ls:=eu
 replace eB:Gt af.ag.ls:=eB
 replace eD:Li aH.bE.ls aN.ai.ls:=eD
 replace eG:aH.bE.ls.length<=6:=eG
 have oH:jS aH.bE.ls af.ag.ls aN.ai.ls<=306:=Nat.le_trans (Bo f6 _) e8
 refine nt (H7 ?_)
 have kZ:=ek.px [] [6] []
 refine H8 (Mz rfl ?_)
 have gW:=kZ.pf [0,8,7,1,2,13,14,11,12,6]
 have oI:=zr 13 gW
 obtain⟨⟨gX,eH,eO,gY⟩,eP⟩:∃ q:Int × bI × ax × aW,ed (bI.mk (dH.mk (F2 (u.av.bD.ls++ [(dL.mk 6 a.aa.bC 0 0 0 0 0 0 d.aU 0 0 0 0 0 0 false (aj.mk [] []) (F2 []) (F2 []) (F2 []))])) (F2 T) u.av.bU) (F2 aH.bE.ls)) (ax.mk (bA.mk a.aa.bC a.aa.aQ a.aa.bq a.aa.aJ a.aa.aD (F2 a.aa.ah.ls) (F2 (t6 (G0 b) a.aa.ak.ls++s0 ((G0 b)+1) a.aa.ak.ls)) (F2 aG.aa.af.ls) a.aa.bi a.aa.aI a.aa.aH a.aa.aC) (F2 af.ag.ls)) j aN=q:=⟨_,rfl⟩
 obtain⟨qH,ji,jk,jl,jm⟩:=Jk gW
 refine cl U0 (nI _ _ V (bI.mk (dH.mk (F2 (u.av.bD.ls++ [(dL.mk 6 a.aa.bC 0 0 0 0 0 0 d.aU 0 0 0 0 0 0 false (aj.mk [] []) (F2 []) (F2 []) (F2 []))])) (F2 T) u.av.bU) (F2 aH.bE.ls)) aT aU (Z++ [(bV.mk 6 a.aa.bC 0 0 0 0 0 0 d.aU 0 0 0 0 0 0 false (aj.mk [] []) (N1 W X []) (N1 none 0 []) (N1 none 0 []))]) aM aF kU kV g (ax.mk (bA.mk a.aa.bC a.aa.aQ a.aa.bq a.aa.aJ a.aa.aD (F2 a.aa.ah.ls) (F2 (t6 (G0 b) a.aa.ak.ls++s0 ((G0 b)+1) a.aa.ak.ls)) (F2 aG.aa.af.ls) a.aa.bi a.aa.aI a.aa.aH a.aa.aC) (F2 af.ag.ls)) z B aA aB (t6 (G0 b) p++s0 ((G0 b)+1) p) dS dU dO dP kQ h j S I l aN kW kX kY gX eH eO gY ji (jI (es:= [(bV.mk 6 a.aa.bC 0 0 0 0 0 0 d.aU 0 0 0 0 0 0 false (aj.mk [] []) (N1 W X []) (N1 none 0 []) (N1 none 0 []))]) (ms:= [(dL.mk 6 a.aa.bC 0 0 0 0 0 0 d.aU 0 0 0 0 0 0 false (aj.mk [] []) (F2 []) (F2 []) (F2 []))]) aC rfl) (jm _ 0 _ rfl bP) e8 (nU P) dQ (jk _ aD) e8 dX f6 f6 f6 (by first | omega | exact Tk.n f6) (by first | omega | exact Tk.rows f6) f0 eP) ?_
 rintro _ qI ⟨lc,lg,lh,ll,lm,lq,lu,lv,lw,lC,lD,lF,lG,lH,rfl,jo,eQ,eT,eU,eX⟩
 have aO:=jl _ _ jo
 have oJ:=aY eQ
 have oK:=aY eT
 have oL:=aY eU
 have oM:=aY eX
 have oN:=zr 1 aO
 have oO:=aO.rowCQ (i:=3) rfl
 have oP:=zr 5 aO
 have oQ:=zr 7 aO
 have oU:=zr 11 aO
 refine An rfl (rt (rs ?_))
 have lI:=aO.pf [0,1,2,13,3,4,5,6,14]
 obtain⟨rfl,rfl,rfl,rfl⟩:=gH (zj hr (show _=(gX,bI.mk (dH.mk (F2 eH.av.bD.ls) (F2 T) u.av.bU) (F2 eH.bE.ls),ax.mk (bA.mk a.aa.bC a.aa.aQ a.aa.bq a.aa.aJ a.aa.aD (F2 a.aa.ah.ls) (F2 eO.aa.ak.ls) (F2 aG.aa.af.ls) a.aa.bi a.aa.aI a.aa.aH a.aa.aC) (F2 eO.ag.ls),gY) from et (ae aL) (et (ae bS) (et (ip Q) (et (ae (bu dE)) (et (ae iV) (et (ae bC) (et (ae dR) (et (ae bD) (ae eP))))))))))
 exact⟨lc,lg,lh,aM,aF,ll,lm,lq,lu,lv,dS,dU,lw,lC,lD,lF,lG,lH,rfl,lI,eQ,eT,eU,eX⟩
 have h101t:Bool.toNat bz=0:=by rw [Q]; rfl
 refine gw (.bool aV) (cn Q) (Ie rfl) (Gz (.bool (!aV)) (cn Q) (fw (.bool (!aV)) (Ic rfl (cn Q) rfl) (nt ?_)))
 rcases Lr (aV) with aI | aI
 have h293t:Bool.toNat aV=1:=by rw [aI]; rfl
 refine jF (cn aI) (sk (H7 (sr (Mn rfl (jF Q (sk (H7 ?_)))))))
 have lJ:=aa.pb [6,7,8,9,10,11]
 refine mJ 10 [] (Ik Iw) lJ ?_
 intro qJ lK
 refine qv 0 rfl rfl (qp V 0 1 rfl (qp V 0 2 rfl (ql 3 rfl 0 Q8 rfl rfl rfl (qp ai 8 4 rfl (ql 5 rfl 3 E1 rfl rfl rfl ?_)))))
 have lL:=lK.pf [10,14,15]
 obtain⟨ag,bE⟩:∃ q,dZ a d.aU=q:=⟨_,rfl⟩
 obtain⟨qK,jq,oV,jr,oW⟩:=Jb lL
 refine qd 6 rfl (IB Tryz.call87 rfl (mh _ _ g a z B r E F G O L R h l d.aU ag jq Y f0 bE) ?_)
 rintro _ qL ⟨eZ,fe,lM,rfl,jy,fq⟩
 have gZ:=jr _ _ jy
 have oZ:=aY fq
 have o5:=zr 1 gZ
 have ib:=gZ.pb [0,1,2,13,14,15]
 refine⟨.inr ⟨_,ib⟩, ?_⟩
 refine qn (Ib (H7 ?_))
 refine mJ 10 [] (Ik Iw) ib ?_
 intro qM lN
 refine qv 0 rfl rfl (qp V 0 1 rfl (qp V 0 2 rfl (ql 3 rfl 0 Q8 rfl rfl rfl (qp ai 8 4 rfl (ql 5 rfl 3 E1 rfl rfl rfl ?_)))))
 have lQ:=lN.pf [10,15]
 obtain⟨aJ,fu⟩:∃ q,gQ (ax.mk a.aa (F2 ag.ag.ls)) d.aU=q:=⟨_,rfl⟩
 obtain⟨qN,jA,o6,jB,o7⟩:=IX lQ
 refine qd 6 rfl (IB Tryz.call88 rfl (qw _ _ g (ax.mk a.aa (F2 ag.ag.ls)) z B r E F G eZ fe h l d.aU aJ jA f0 fu) ?_)
 rintro _ qO ⟨fA,fB,rfl,jC,fC⟩
 have ic:=jB _ _ jC
 have o8:=zr 1 ic
 replace fC:aJ.aa.af.ls.length<=a.aa.af.ls.length+1:=fC
 have fD:=ic.pb [0,1,12,13,14,15]
 refine⟨.inr ⟨_,fD⟩, ?_⟩
 refine qn (Ib (sr (Mz rfl (Kz (vP ai 8) (Lz (vU d.aU) fD 3 E1 ?_)))))
 have lS:=fD.pf [0,5,10,7,8,9]
 obtain⟨⟨aK,aQ⟩,bF⟩:∃ q:bI × aW,fo (bI.mk (dH.mk (F2 (u.av.bD.ls++ [(dL.mk 6 a.aa.bC 0 0 0 0 0 0 d.aU 0 0 0 0 0 0 false (aj.mk [] []) (F2 []) (F2 []) (F2 []))])) (F2 u.av.aL.ls) u.av.bU) (F2 u.bE.ls)) d.aU (ax.mk (bA.mk a.aa.bC a.aa.aQ a.aa.bq a.aa.aJ a.aa.aD (F2 a.aa.ah.ls) (F2 a.aa.ak.ls) (F2 aJ.aa.af.ls) a.aa.bi a.aa.aI a.aa.aH a.aa.aC) (F2 ag.ag.ls)) C=q:=⟨_,rfl⟩
 obtain⟨qP,jD,o9,jE,pg⟩:=Je lS
 refine cl Tryz.call89 (oF _ _ V (bI.mk (dH.mk (F2 (u.av.bD.ls++ [(dL.mk 6 a.aa.bC 0 0 0 0 0 0 d.aU 0 0 0 0 0 0 false (aj.mk [] []) (F2 []) (F2 []) (F2 []))])) (F2 u.av.aL.ls) u.av.bU) (F2 u.bE.ls)) aT aU ak ah au av d.aU g (ax.mk (bA.mk a.aa.bC a.aa.aQ a.aa.bq a.aa.aJ a.aa.aD (F2 a.aa.ah.ls) (F2 a.aa.ak.ls) (F2 aJ.aa.af.ls) a.aa.bi a.aa.aI a.aa.aH a.aa.aC) (F2 ag.ag.ls)) z B r E fA fB eZ fe h l C M N J aK aQ jD U f0 (by first | assumption | exact Tk.snd f6) bF) ?_
 rintro _ qQ ⟨lT,lU,lV,lW,lY,rfl,jG,fE,fF⟩
 have fG:=jE _ _ jG
 have pq:=aY fE
 have pu:=fG.rowCQ (i:=1) rfl
 have pz:=zr 4 fG
 replace fF:aK.bE.ls.length<=u.bE.ls.length+24:=fF
 obtain⟨fH,fI,fJ,fK⟩:=yS (m:=a) (m1:=a) (hs':=a.aa.ak.ls) f6 f6 aL (by first | exact .inl ⟨Q,rfl⟩ | exact .inr ⟨Q,rfl⟩) rfl bE i8 bF
 replace fH:Tk ag.ag.ls a.aa.ak.ls aQ.ai.ls:=fH
 replace fI:Gt ag.ag.ls:=fI
 replace fJ:Li aK.bE.ls aQ.ai.ls:=fJ
 replace fK:aK.bE.ls.length<=6:=fK
 have pE:jS aK.bE.ls ag.ag.ls aQ.ai.ls<=306:=Nat.le_trans (Bo f6 _) e8
 refine nt (H7 ?_)
 have lZ:=fG.px [] [8] []
 refine H8 (Mz rfl ?_)
 have ig:=lZ.pf [0,7,6,1,2,13,14,11,12,9]
 have pF:=zr 13 ig
 obtain⟨⟨ik,fM,fP,il⟩,fQ⟩:∃ q:Int × bI × ax × aW,ed (bI.mk (dH.mk (F2 (u.av.bD.ls++ [(dL.mk 6 a.aa.bC 0 0 0 0 0 0 d.aU 0 0 0 0 0 0 false (aj.mk [] []) (F2 []) (F2 []) (F2 []))])) (F2 u.av.aL.ls) u.av.bU) (F2 aK.bE.ls)) (ax.mk (bA.mk a.aa.bC a.aa.aQ a.aa.bq a.aa.aJ a.aa.aD (F2 a.aa.ah.ls) (F2 a.aa.ak.ls) (F2 aJ.aa.af.ls) a.aa.bi a.aa.aI a.aa.aH a.aa.aC) (F2 ag.ag.ls)) j aQ=q:=⟨_,rfl⟩
 obtain⟨qR,jH,jJ,jK,jL⟩:=Jk ig
 refine cl U0 (nI _ _ V (bI.mk (dH.mk (F2 (u.av.bD.ls++ [(dL.mk 6 a.aa.bC 0 0 0 0 0 0 d.aU 0 0 0 0 0 0 false (aj.mk [] []) (F2 []) (F2 []) (F2 []))])) (F2 u.av.aL.ls) u.av.bU) (F2 aK.bE.ls)) aT aU (Z++ [(bV.mk 6 a.aa.bC 0 0 0 0 0 0 d.aU 0 0 0 0 0 0 false (aj.mk [] []) (N1 W X []) (N1 none 0 []) (N1 none 0 []))]) ak ah lT lU g (ax.mk (bA.mk a.aa.bC a.aa.aQ a.aa.bq a.aa.aJ a.aa.aD (F2 a.aa.ah.ls) (F2 a.aa.ak.ls) (F2 aJ.aa.af.ls) a.aa.bi a.aa.aI a.aa.aH a.aa.aC) (F2 ag.ag.ls)) z B r E p fA fB eZ fe lM h j S I l aQ lV lW lY ik fM fP il jH (jI (es:= [(bV.mk 6 a.aa.bC 0 0 0 0 0 0 d.aU 0 0 0 0 0 0 false (aj.mk [] []) (N1 W X []) (N1 none 0 []) (N1 none 0 []))]) (ms:= [(dL.mk 6 a.aa.bC 0 0 0 0 0 0 d.aU 0 0 0 0 0 0 false (aj.mk [] []) (F2 []) (F2 []) (F2 []))]) aC rfl) (jL _ 0 _ rfl bP) e8 P fq (jJ _ aD) e8 fE f6 f6 f6 (by first | omega | exact Tk.n f6) (by first | omega | exact Tk.rows f6) f0 fQ) ?_
 rintro _ qU ⟨l5,l6,l7,l8,l9,ma,mf,mg,mi,mo,mq,mr,mD,mE,rfl,jM,fT,fU,fV,fZ⟩
 have aS:=jK _ _ jM
 have pG:=aY fT
 have pI:=aY fU
 have pJ:=aY fV
 have pK:=aY fZ
 have pM:=zr 1 aS
 have pO:=aS.rowCQ (i:=3) rfl
 have pQ:=zr 5 aS
 have pR:=zr 7 aS
 have pU:=zr 11 aS
 refine An rfl (rt (rs ?_))
 have mF:=aS.pf [0,1,2,13,3,4,5,6,14]
 obtain⟨rfl,rfl,rfl,rfl⟩:=gH (zj hr (show _=(ik,bI.mk (dH.mk (F2 fM.av.bD.ls) (F2 u.av.aL.ls) u.av.bU) (F2 fM.bE.ls),ax.mk (bA.mk a.aa.bC a.aa.aQ a.aa.bq a.aa.aJ a.aa.aD (F2 a.aa.ah.ls) (F2 fP.aa.ak.ls) (F2 aJ.aa.af.ls) a.aa.bi a.aa.aI a.aa.aH a.aa.aC) (F2 fP.ag.ls),il) from et (ae aL) (et (ae bS) (et (eF Q) (et (ip aI) (et (ae bE) (et (ae fu) (et (ae bF) (ae fQ)))))))))
 exact⟨l5,l6,l7,ak,ah,l8,l9,ma,mf,mg,fA,fB,mi,mo,mq,mr,mD,mE,rfl,mF,fT,fU,fV,fZ⟩
 have h293t:Bool.toNat aV=0:=by rw [aI]; rfl
 refine jT (cn aI) (sr (An rfl (rt (tR (rs ?_)))))
 have mG:=aa.px [0,2] [3] []
 obtain⟨rfl,rfl,rfl,rfl⟩:=gH (zj hr (show _=(0,bI.mk (dH.mk (F2 (u.av.bD.ls++ [(dL.mk 6 a.aa.bC 0 0 0 0 0 0 d.aU 0 0 0 0 0 0 false (aj.mk [] []) (F2 []) (F2 []) (F2 []))])) (F2 u.av.aL.ls) u.av.bU) (F2 u.bE.ls),a,C) from et (ae aL) (et (ae bS) (et (eF Q) (eF aI))))).symm
 exact⟨aT,aU,(Z++ [(bV.mk 6 a.aa.bC 0 0 0 0 0 0 d.aU 0 0 0 0 0 0 false (aj.mk [] []) (N1 W X []) (N1 none 0 []) (N1 none 0 []))]),ak,ah,au,av,r,E,p,F,G,O,L,R,M,N,J,rfl,mG,(jI (es:= [(bV.mk 6 a.aa.bC 0 0 0 0 0 0 d.aU 0 0 0 0 0 0 false (aj.mk [] []) (N1 W X []) (N1 none 0 []) (N1 none 0 []))]) (ms:= [(dL.mk 6 a.aa.bC 0 0 0 0 0 0 d.aU 0 0 0 0 0 0 false (aj.mk [] []) (F2 []) (F2 []) (F2 []))]) aC rfl),P,Y,U⟩
end
section
open Go.RowKit
theorem Ed {x:dL}:∀ {l:List Int},lp (jO x l) (λ _=>true)=true->∀ f ∈ l,rP x f=true
  | [],_,f,hf=>by cases hf
  | y::l,h,f,hf=>by
    simp only [jO,bnd] at h
    by_cases e:rP x y=true
    . rw [if_pos e] at h
      rcases List.mem_cons.1 hf with rfl | hf
      . exact e
      . exact Ed h f hf
    . rw [if_neg e] at h; cases h
theorem yT {x:dL} {r:Int} (h:kG x=r) (a:r=0) (hk:x.aB=3):oJ 3 x.aK.ls=true:=by
  subst a
  unfold kG rT at h
  simp only [bnd] at h
  rcases el:qx x.aB with ⟨y,ok⟩
  rw [el] at h
  split at h
  case isFalse=>cases h
  split at h
  case isFalse=>cases h
  split at h
  case isFalse=>cases h
  split at h
  case isFalse=>cases h
  split at h
  case isFalse=>cases h
  rename_i hm
  have b:(7:Int) ∈ y.cB.ls:=by
    rw [hk] at el
    have:y=fJ.mk 0 1 (Ll.mk ([4,5,6,7])):=(congrArg Prod.fst el).symm
    rw [this]; decide
  have:=Ed hm 7 b
  simp only [rP,bnd,Int.reduceEq, ↓reduceIte] at this
  rw [hk] at this
  exact this
theorem xm {x:dL} {r:Int} (h:kG x=r): ¬ (r=0)\/¬ (x.aB=3)\/List.length x.aK.ls<=24:=by
  by_cases a:r=0
  . by_cases hk:x.aB=3
    . have:=yT h a hk
      unfold oJ at this
      rw [if_neg f5,if_pos rfl] at this
      refine .inr (.inr ?_)
      split at this
      . split at this
        . omega
        . cases this
      . cases this
    . exact .inr (.inl hk)
  . exact .inl a
section
variable {κ ν:Type} [DecidableEq κ] {P:Program} {n:Nat} {F:List (Nat × Value)} {w0 w:World} {D:Nat->Prop} {L:List HP} {ty t kt e:TypeId} {ek:κ->Value} {vv:ν->Value} {m:List (κ × ν)} {g:Nat} {K:Value->World->Prop} {x y q:Operand}
theorem Jo {k:κ} {v:ν} (H:Own w0 D w (pV g ek vv m::L)) (K':za P kt ek) (ht:P.underlying t=some (.map kt e)) (hx:ev F x=some (.map (some g))) (hy:ev F y=some (ek k)) (hq:ev F q=some (vv v))
    (h:∀ w',Own w0 D w' (pV g ek vv (gU m k v)::L)->K undef w'):Do P n F w (.insert t x y q) ty K:=λ a ha op b c next Q hnx=>by
  have d:execOp a.eval op=execOp a.eval { op with op:= .mapUpdate t x y q }:=by unfold execOp; rw [b]
  rw [d]
  exact J8 H K' ht hx hy hq h a ha { op with op:= .mapUpdate t x y q } rfl c next Q hnx
end
def vF:Option Nat->Value
  | some f=> .func (.func f) #[] #[]
  | none=> .nilFunc
theorem Fz {k:Int} {a b c d e f:Option Nat} (h: ¬ k=12) (i: ¬ k=11) (j: ¬ k=10) (l: ¬ k=8) (o: ¬ k=5) (p: ¬ k=3):uu (gU (gU (gU (gU (gU (gU ([]:List (Int × Option Nat)) 3 a) 5 b) 8 c) 10 d) 11 e) 12 f) k=none:=by
  simp [gU,uu,Ne.symm p,Ne.symm o,Ne.symm l,Ne.symm j,Ne.symm i,Ne.symm h]
end
end Go.Proofs.YtndamapfnpihpaaGreat
