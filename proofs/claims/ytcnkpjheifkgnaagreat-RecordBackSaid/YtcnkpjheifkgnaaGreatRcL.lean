/-
  The chapter's examples; a state is the same as itself.
  Conditions: none.
-/
import Derived.Test.YtcnkpjheifkgnaaGreatRcX
import Derived.Test.YtcnkpjheifkgnaaGreatRl
namespace Go.Proofs.YtcnkpjheifkgnaaGreat
set_option linter.unusedVariables false
set_option linter.unusedSimpArgs false
theorem lJ {α:Type} [Inhabited α] {l:List α} {k:Nat} {x:α} {q:List α} (h:List.drop k l=x::q):List.getD l k default=x∧List.drop (k+1) l=q:=by
  have a:l[k]? =some x:=by
    have:=congrArg (fun z=>z[0]?) h
    simp only [List.getElem?_drop,List.getElem?_cons_zero,Nat.add_zero] at this
    exact this
  refine⟨by rw [List.getD,a]; rfl, ?_⟩
  rw [show k+1=k+1 from rfl, ← List.drop_drop,h]
  rfl
theorem xq (l:List aW):∀ (q:List aW) (k:Nat),List.drop k l=q→gM l q k= .inl ()
  | [],_,_=>rfl
  | x::q,k,h=>by
    obtain⟨a,b⟩:=lJ h
    unfold gM
    rw [aF,a,if_pos ⟨rfl,rfl,rfl,rfl,rfl,rfl⟩]
    exact xq l q _ b
theorem vK (l:List aW):kV l l=true:=by
  unfold kV
  rw [if_pos rfl,xq l l 0 rfl]
  rfl
theorem xu (l:List bu):∀ (q:List bu) (k:Nat),List.drop k l=q→gP l q k= .inl ()
  | [],_,_=>rfl
  | x::q,k,h=>by
    obtain⟨a,b⟩:=lJ h
    unfold gP
    rw [aF,a,if_pos ⟨rfl,rfl⟩]
    exact xu l q _ b
theorem vL (l:List bu):kW l l=true:=by
  unfold kW
  rw [if_pos rfl,xu l l 0 rfl]
  rfl
theorem xw (l:List bX):∀ (q:List bX) (k:Nat),List.drop k l=q→eO l q k= .inl ()
  | [],_,_=>rfl
  | x::q,k,h=>by
    obtain⟨a,b⟩:=lJ h
    unfold eO
    rw [aF,a,if_pos rfl,if_neg (fun h=>h rfl),aF,vL,if_pos rfl]
    exact xw l q _ b
theorem vM (l:List bX):jX l l=true:=by
  unfold jX
  rw [if_pos rfl,xw l l 0 rfl]
  rfl
theorem xx (l:List aH):∀ (q:List aH) (k:Nat),List.drop k l=q→iL l q k= .inl ()
  | [],_,_=>rfl
  | x::q,k,h=>by
    obtain⟨a,b⟩:=lJ h
    unfold iL
    rw [aF,a,if_pos ⟨rfl,rfl⟩]
    exact xx l q _ b
theorem sw (l:List aH):kZ l l=true:=by
  unfold kZ
  rw [if_pos rfl,xx l l 0 rfl]
  rfl
theorem vk (p:bP):∀ (q:List fK) (k:Nat),List.drop k p.aD.ls=q→fM p p q k= .inl ()
  | [],_,_=>rfl
  | x::q,k,h=>by
    obtain⟨a,b⟩:=lJ h
    unfold fM
    rw [aF,a,if_pos rfl,aF,vK,if_pos rfl]
    exact vk p q _ b
theorem vo (p:bP):∀ (q:List Nat) (k:Nat),List.drop k p.aj.ls=q→gz p q k= .inl ()
  | [],_,_=>rfl
  | x::q,k,h=>by
    obtain⟨a,b⟩:=lJ h
    unfold gz
    rw [aF,a,if_pos rfl]
    exact vo p q _ b
theorem nd {p:Prop} [Decidable p] (h:p):decide (¬ p)=false:=decide_eq_false (fun n=>n h)
theorem vN (p:bP):jd p p=true:=by
  unfold jd
  simp only [aF,sw,vk p p.aD.ls 0 rfl,vo p p.aj.ls 0 rfl,lp,not_true_eq_false,decide_false,if_true,Bool.not_true,and_self]
theorem vv (a:Nat) (d:bO):∀ (q:List Int) (k:Nat),List.drop k d.af.ls=q→gB a d q k= .inl ()
  | [],_,_=>rfl
  | x::q,k,h=>by
    obtain⟨b,c⟩:=lJ h
    unfold gB
    rw [aF,b,if_pos rfl]
    exact vv a d q _ c
theorem vw (p:bK):∀ (q:List bO) (k:Nat),List.drop k p.ai.ls=q→dW p p q k= .inl ()
  | [],_,_=>rfl
  | x::q,k,h=>by
    obtain⟨a,b⟩:=lJ h
    have ih:=vw p q _ b
    unfold dW
    rw [aF,a]
    simp only [aF,vv k x x.af.ls 0 rfl,ih]
    simp [kQ]
theorem vz (p:bK):∀ (q:List eD) (k:Nat),List.drop k p.aG.ls=q→eX p q k= .inl ()
  | [],_,_=>rfl
  | x::q,k,h=>by
    obtain⟨a,b⟩:=lJ h
    have ih:=vz p q _ b
    unfold eX
    rw [aF,a]
    simp only [aF,vM,ih]
    simp
theorem vO (p:bK):je p p=true:=by
  unfold je
  simp only [aF,sw,vw p p.ai.ls 0 rfl,vz p p.aG.ls 0 rfl,lp]
  simp
def s1:bP:=bP.mk 1 0 0 0 0 (Ll.mk ([(aH.mk ([]) 1)])) (Ll.mk ([])) (Ll.mk ([])) 0 0 (bI.mk ([]) ([])) (eU.mk 0 0 0 (bI.mk ([]) ([])))
def c1:bK:=bK.mk 2 1 0 0 (Ll.mk ([(aH.mk ([]) 1)])) (Ll.mk ([])) (Ll.mk ([]))
theorem uB:bG s1=0:=by decide+kernel
theorem uC:bH c1=0:=by decide+kernel
theorem yI: [83]++ma s1= [83,1,0,0,0,0,1,0,1,0,0,0,0,0,0,0,0,0,0,0]:=by decide+kernel
theorem yJ: [67]++mO c1= [67,2,1,0,0,1,0,1,0,0]:=by decide+kernel
theorem yK:nE s1:=by simp [nE,s1]
theorem yL:nG c1:=by simp [nG,c1]
theorem tZ:mQ=true:=by
  unfold mQ
  rw [show bP.mk 1 0 0 0 0 (Ll.mk ([(aH.mk ([]) 1)])) (Ll.mk ([])) (Ll.mk ([])) 0 0 (bI.mk ([]) ([])) (eU.mk 0 0 0 (bI.mk ([]) ([])))=s1 from rfl,show bK.mk 2 1 0 0 (Ll.mk ([(aH.mk ([]) 1)])) (Ll.mk ([])) (Ll.mk ([]))=c1 from rfl,sS,sU,if_pos uB,if_pos uC,aF,aF]
  have ps:=xg uB yK
  have pc:=xn uC yL
  dsimp only
  rw [wQ s1 ps.1 uB (by have:=ps.2; omega),aF,wR c1 pc.1 uC (by have:=pc.2; omega),aF,aF]
  have hd:=wS (ma s1) (by have:=ps.2; omega)
  dsimp only
  rw [hd,if_pos yI,if_pos rfl,if_pos yJ,if_pos rfl]
  rfl
end Go.Proofs.YtcnkpjheifkgnaaGreat
