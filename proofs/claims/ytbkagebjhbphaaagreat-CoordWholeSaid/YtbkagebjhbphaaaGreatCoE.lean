/-
  What is cut along owners: the program's pieces are the document's; a shard owns what its piece spans. Conditions: none beyond each law's own.
-/
import Derived.Test.YtbkagebjhbphaaaGreatCoH
namespace Go.Proofs.YtbkagebjhbphaaaGreat
open Int renaming toNat_natCast→L4
open List renaming append_assoc→q5,append_nil→s6,drop→r4,flatMap→q4,flatMap_cons→q1,getElem?_eq_getElem→p7,map→s5,map_append→v2,nil_append→I0
set_option linter.unusedVariables false
set_option linter.unusedSimpArgs false
set_option linter.unusedSectionVars false
theorem Ho (a b:List UInt8):(if om b a=true then b else a)=M.ls a b:=by
  unfold om M.ls
  by_cases c:b= []
  · rw [c]; simp
  · by_cases d:a= []
    · rw [d]; simp [c]
    · by_cases e:b < a <;> simp [c,d,e]
theorem Gu {r s:aL} (h:M.M r.aJ r.aR s.aJ s.aR):ng r s=(aL.mk (M.mx r.aJ s.aJ) (M.ls r.aR s.aR),true):=by
  obtain⟨b,c,a⟩:=h
  unfold ng
  simp only [dw,Ho,ET]
  rw [if_pos (tX.2 b),if_pos (tX.2 c)]
  unfold M.B at a
  by_cases g:M.ls r.aR s.aR= []
  · rw [if_neg (by simp [g])]
  · rw [if_pos g,if_neg (fun q=>(sN.2 q) (a.resolve_left g))]
theorem Gv {r s:aL} (h: ¬ M.M r.aJ r.aR s.aJ s.aR):ng r s=(aL.mk [] [],false):=by
  unfold ng
  simp only [dw,Ho,ET]
  by_cases a:gF r=0
  · by_cases b:gF s=0
    · rw [if_pos a,if_pos b]
      by_cases g:M.ls r.aR s.aR= []
      · exact absurd ⟨tX.1 a,tX.1 b, .inl g⟩ h
      · rw [if_pos g]
        by_cases c:M.ls r.aR s.aR≤M.mx r.aJ s.aJ
        · rw [if_pos c]
        · exact absurd ⟨tX.1 a,tX.1 b, .inr (List.not_le.1 c)⟩ h
    · rw [if_pos a,if_neg b]
  · rw [if_neg a]
theorem DN (r s:aL):kJ s r=ng r s:=by
  by_cases h:M.M r.aJ r.aR s.aJ s.aR
  · rw [Gu h,EU ((M.M_comm _ _ _ _).1 h),M.mx_comm,M.ls_comm]
  · rw [Gv h,EW (fun q=>h ((M.M_comm _ _ _ _).1 q))]
theorem zI (l:List aM) (p:Int) (o:aN):∀ (q:List aM) (a:List aN) (i:Nat),fH l p o q a i=dW l p o q a i
  | [],_,_=>rfl
  | x::q,a,i=>by simp only [dW,fH,dw,zI l p o q]
theorem zk {l:List aM} {p:Int} {k:Nat} {o:aN} (hk:o.aZ= []):∀ (q:List aM) (i:Nat) (a acc:List aN) (b:List Int),(iF l p k o q i (a++acc) b).1=a++dW l p o q acc i
  | [],_,_,_,_=>rfl
  | x::q,i,a,acc,b=>by
    have ih:=zk (l:=l) (p:=p) (k:=k) hk q
    rw [iF,dW]
    simp only [dw]
    by_cases h:x.bE=p
    · rw [if_pos h,if_pos h,if_neg (fun q=>q hk),Ba,DN]
      by_cases m:(ng (kX l ((i:Nat):Int)) (aL.mk o.aJ o.aR)).2=true
      · rw [if_pos m,if_pos m,q5]; exact ih _ _ _ _
      · rw [if_neg m,if_neg m]; exact ih _ _ _ _
    · rw [if_neg h,if_neg h]; exact ih _ _ _ _
theorem rW {α:Type} {l q:List α} {x:α} {i:Nat} (h:r4 i l=x::q):l[i]? =some x∧r4 (i+1) l=q:=by
  refine⟨?_,by rw [← List.drop_drop,h]; rfl⟩
  have e:(r4 i l)[0]? =some x:=by rw [h]; rfl
  rwa [List.getElem?_drop,Nat.add_zero] at e
theorem drop_nil {α:Type} {l:List α} {i:Nat} (h:r4 i l= []):l.length≤i:=by
  have:=congrArg List.length h
  rw [List.length_drop] at this
  simp only [List.length_nil] at this
  omega
theorem Cc {l:List aM} {p:Int} {k j:Nat} {o:aN} {y:aM} (hk:o.aZ≠ []) (hat:uN l o.aZ=((j:Nat):Int)) (hy:l[j]? =some y):∀ (q:List aM) (i:Nat) (a:List aN) (b:List Int),r4 i l=q→(iF l p k o q i a b).1=a++(if i≤j∧y.bE=p then [o] else [])
  | [],i,a,b,hd=>by
    have:=drop_nil hd
    have:=(List.getElem?_eq_some_iff.1 hy).1
    rw [if_neg e6,s6]; rfl
  | x::q,i,a,b,hd=>by
    obtain⟨hx,d⟩:=rW hd
    have ih:=fun a b=>Cc (p:=p) (k:=k) hk hat hy q (i+1) a b d
    rw [iF]
    simp only [dw]
    by_cases h:x.bE=p
    · rw [if_pos h,if_pos hk,hat]
      by_cases e:j=i
      · subst e
        rw [hx] at hy; cases hy
        rw [if_pos rfl,ih,if_neg e6,if_pos ⟨Nat.le_refl _,h⟩,s6]
      · rw [if_neg e6,ih]
        congr 1
        by_cases c:i+1≤j∧y.bE=p
        · rw [if_pos c,if_pos ⟨e6,c.2⟩]
        · rw [if_neg c,if_neg (fun q=>c ⟨e6,q.2⟩)]
    · rw [if_neg h,ih]
      congr 1
      by_cases c:i+1≤j∧y.bE=p
      · rw [if_pos c,if_pos ⟨e6,c.2⟩]
      · rw [if_neg c,if_neg (fun q=>c ⟨?_,q.2⟩)]
        by_cases e:j=i
        · subst e; rw [hx] at hy; cases hy; exact absurd q.2 h
        · omega
theorem Ih {l:List aM} (H:oZ l) {o:aN} (ho:eu o=0) (p:Int) (k:Nat) (a:List aN) (b:List Int):(iF l p k o l 0 a b).1=a++je l p o:=by
  have d:o.av=4∨o.av=5→(iF l p k o l 0 a b).1=a++dW l p o l [] 0:=fun h=>by
    have:=zk (l:=l) (p:=p) (k:=k) (Bb ho h) l 0 a [] b
    rwa [s6] at this
  unfold je
  by_cases e:o.av=4
  · rw [if_pos e,dw]; exact d (.inl e)
  rw [if_neg e]
  by_cases f:o.av=5
  · rw [if_pos f,dw,zI]; exact d (.inr f)
  rw [if_neg f]
  have hk:1≤o.av∧o.av≤5:=by
    by_cases c:1≤o.av∧o.av≤5
    · exact c
    · rw [Gt c] at ho; cases ho
  have kk:=DL ho e6
  obtain⟨j,hp⟩:=H.pos o.aZ
  obtain⟨y,hy⟩:∃ y,l[j]? =some y:=⟨_,p7 hp.lt⟩
  rw [Cc (tV.2 kk.1) (Gr H kk hp) hy l 0 a b rfl,xB hp]
  simp only [dw,L4,aT hy]
  by_cases c:y.bE=p
  · rw [if_pos ⟨Lp _,c⟩,if_pos c]
  · rw [if_neg (fun q=>c q.2),if_neg c]
theorem Hq {l:List aM} (H:oZ l) (p:Int):∀ {q:List aN} (k:Nat) (a:List aN) (b:List Int),(∀ o ∈ q,eu o=0)→(l5 l p q k a b).1=a++q4 (je l p) q
  | [],k,a,b,_=>(s6 a).symm
  | o::q,k,a,b,h=>by
    rw [l5,dw,Hq H p (k+1) _ _ (fun o ho=>h o (.tail _ ho)),Ih H (h o b1),q1,q5]
theorem zJ (l0:List aM) (pl:List fu) (k:Nat):∀ (q:List aN) (j:Nat) (l:List aN) (m:List Int),(jC l0 pl k q j l m).1=l++q4 (je l0 ((k:Nat):Int)) q
  | [],j,l,m=>(s6 l).symm
  | x::q,j,l,m=>by
    simp only [jC,bnd]
    rw [zJ l0 pl k q,q1,q5]
def DR (x:fu):Int × List aN:=(x.bE,x.aB.ls)
def DT (x:jA):Int × List aN:=(x.bE,x.aB.ls)
theorem xD {l:List aM} {ops:List aN} (H:oZ l) (ho:∀ o ∈ ops,eu o=0):∀ (n k:Nat) (a:List fu) (b:List jA),k+n=5→s5 DR a=s5 DT b→s5 DR (gp l ops n a k)=s5 DT (lu l ops (n+1) b k)
  | 0,k,a,b,hn,h=>by
    rw [lu,if_neg e6]; exact h
  | n+1,k,a,b,hn,h=>by
    have d:=zJ l a k ops 0 [] []
    have e:=Hq H ((k:Nat):Int) (q:=ops) 0 [] [] ho
    rw [gp,lu,if_pos e6]
    unfold yu
    simp only [dw]
    rw [d,e]
    simp only [I0]
    by_cases c:((List.length (q4 (je l ((k:Nat):Int)) ops):Nat):Int) > 0
    · rw [if_pos c,if_pos c]
      refine xD H ho n (k+1) _ _ e6 ?_
      rw [v2,v2,h]; rfl
    · rw [if_neg c,if_neg c]
      exact xD H ho n (k+1) _ _ e6 h
theorem DU {l:List aM} (H:oZ l) {o:aN} (ho:eu o=0):je l 0 o= []:=by
  have no:∀ (q:List aM) (i:Nat),(∀ x ∈ q,x ∈ l)→dW l 0 o q [] i= []:=by
    intro q
    induction q with
    | nil=>intro _ _; rfl
    | cons x q ih=>
      intro i h
      rw [dW,if_neg (by have:=(H.CQ x (h x b1)).1; omega)]
      exact ih _ fun y hy=>h y (.tail _ hy)
  unfold je
  by_cases a:o.av=4
  · rw [if_pos a,dw]; exact no l 0 fun _ h=>h
  rw [if_neg a]
  by_cases b:o.av=5
  · rw [if_pos b,dw,zI]; exact no l 0 fun _ h=>h
  rw [if_neg b]
  obtain⟨j,hp⟩:=H.pos o.aZ
  obtain⟨y,hy⟩:∃ y,l[j]? =some y:=⟨_,p7 hp.lt⟩
  rw [xB hp]
  simp only [dw,L4,aT hy]
  rw [if_neg (by have:=(H.CQ y (List.mem_of_getElem? hy)).1; omega)]
theorem Ce {l:List aN} (h:kC l=0):∀ o ∈ l,eu o=0:=by
  unfold kC mU at h
  simp only [bnd] at h
  split at h
  · cases h
  split at h
  · cases h
  have key:∀ l:List aN,lp (iH l) (fun _=>(0:Int))=0→∀ o ∈ l,eu o=0:=by
    intro l
    induction l with
    | nil=>intro _ o ho; cases ho
    | cons x q ih=>
      intro h o ho
      simp only [iH,bnd] at h
      by_cases e:eu x=0
      · rw [if_pos e] at h
        rcases List.mem_cons.1 ho with rfl | ho
        · exact e
        · exact ih h o ho
      · rw [if_neg e] at h; exact absurd h e
  exact key l h
theorem Gw {l:List aM} {ops:List aN} (H:oZ l) (ho:kC ops=0):∃ ps qs,ko l ops=(ps,0)∧sS l ops=(qs,0)∧s5 DR ps=s5 DT qs:=by
  have hE:=Ce ho
  unfold ko sS
  simp only [dw]
  rw [← DI, ← Ev,if_pos (ww.2 H),if_pos ho,if_pos (ww.2 H),if_pos ho]
  refine⟨_,_,rfl,rfl, ?_⟩
  have z:q4 (je l ((0:Nat):Int)) ops= []:=List.flatMap_eq_nil_iff.2 fun o h=>DU H (hE o h)
  have e:gp l ops 5 [] 0=gp l ops 4 [] 1:=by
    have a:=zJ l [] 0 ops 0 [] []
    rw [I0,z] at a
    rw [gp]
    simp only [dw]
    rw [a,if_neg f2]
  rw [e]
  exact xD H hE 4 1 [] [] rfl rfl
end Go.Proofs.YtbkagebjhbphaaaGreat
